import PyProof.Rows.All
import Wide.All
import OpenK.AllK
import Wide.FinOn
import Lean
import PyProof.EqAt
import PyProof.EqKinds
import PyProof.TupleCall
import PyProof.NeKinds
import PyProof.Rows.SetFrom
import PySem.Challenge.RW_mendweights_k30_widths_refused
set_option Elab.async false
set_option linter.all false
set_option maxRecDepth 100000
namespace L2
open PySem PySem.Spec PyProof.Rows
abbrev Key := Sum Int Str
def keyIs : Key -> Value -> Bool
 | .inl k, v => Value.isInt k v
 | .inr x, v => Value.isStrOf x v
def keyH (w : World) : Key -> Int
 | .inl k => hashInt k
 | .inr x => hashStr w x
theorem dB : ∀ {k : Key} {v : Value}, keyIs k v = true -> (∃ i t, k = Sum.inl i /\ v = Value.int i t) \/ (∃ x t, k = Sum.inr x /\ v = Value.str x t)
 | .inl i, v, h => by
  obtain ⟨t, e⟩ := Value.isInt_shape (k := i) (v := v) h
  exact .inl ⟨i, t, rfl, e⟩
 | .inr x, v, h => by
  obtain ⟨t, e⟩ := Value.isStrOf_shape (x := x) (v := v) h
  exact .inr ⟨x, t, rfl, e⟩
theorem key_ll (a b : Int) : decide ((Sum.inl a : Key) = Sum.inl b) = (a == b) := by
 by_cases e : a = b
 ·subst e; simp
 ·have h : ¬ (Sum.inl a : Key) = Sum.inl b := fun q => e (Sum.inl.inj q)
  rw [decide_eq_false h]
  exact (beq_eq_false_iff_ne.mpr e).symm
theorem key_rr (a b : Str) : decide ((Sum.inr a : Key) = Sum.inr b) = decide (a = b) := by
 by_cases e : a = b
 ·subst e; simp
 ·have h : ¬ (Sum.inr a : Key) = Sum.inr b := fun q => e (Sum.inr.inj q)
  rw [decide_eq_false h, decide_eq_false e]
theorem key_lr (a : Int) (b : Str) : decide ((Sum.inl a : Key) = Sum.inr b) = false := decide_eq_false (fun q => nomatch q)
theorem key_rl (a : Str) (b : Int) : decide ((Sum.inr a : Key) = Sum.inl b) = false := decide_eq_false (fun q => nomatch q)
def mixKind (prog : Program) (w : World) : PySem.KeyKind prog w Key where
  is := keyIs
  hash := keyH w
  inj := fun v a b ha hb => by
    rcases dB ha with ⟨i, t, rfl, rfl⟩ | ⟨x, t, rfl, rfl⟩
    · rcases dB hb with ⟨j, u, rfl, e⟩ | ⟨y, u, rfl, e⟩
      · injection e with e1 _; rw [e1]
      · exact nomatch e
    · rcases dB hb with ⟨j, u, rfl, e⟩ | ⟨y, u, rfl, e⟩
      · exact nomatch e
      · injection e with e1 _; rw [e1]
  byValue := fun k v h => by
    rcases dB h with ⟨i, t, rfl, rfl⟩ | ⟨x, t, rfl, rfl⟩ <;> rfl
  pyHash := fun hv h => by
    rcases dB hv with ⟨i, t, rfl, rfl⟩ | ⟨x, t, rfl, rfl⟩
    · exact wpAny_pyHash_int h
    · exact wpAny_pyHash_str h
  eqBool := fun hu hv h => by
    rcases dB hu with ⟨i, t, rfl, rfl⟩ | ⟨x, t, rfl, rfl⟩
    · rcases dB hv with ⟨j, u, rfl, rfl⟩ | ⟨y, u, rfl, rfl⟩
      · rw [key_ll] at h; exact wpAny_eqBool_int h
      · rw [key_lr] at h; exact SeqAt.EqAt.int_str i t y u _ _ _ _ h
    · rcases dB hv with ⟨j, u, rfl, rfl⟩ | ⟨y, u, rfl, rfl⟩
      · rw [key_rl] at h; exact SeqAt.EqAt.str_int x t j u _ _ _ _ h
      · rw [key_rr] at h; exact wpAny_eqBool_str h
  «strs» := fun k x t v h => by
    rcases dB h with ⟨i, u, rfl, e⟩ | ⟨y, u, rfl, e⟩
    · exact nomatch e
    · injection e with e1 _
      subst e1
      cases v <;> rfl
end L2
namespace L2
open PySem PySem.Spec PyProof.Rows
inductive V where
 | non | bl (b : Bool) | int (i : Int) | str (x : Str) | byt (b : Array UInt8) | flt (b : UInt64) | ref (a : Addr) | ty (n : String)
 deriving DecidableEq
def RelV : V -> Value -> Prop
 | .non, u => u = Value.none
 | .bl b, u => u = Value.bool b
 | .int i, u => ∃ t, u = Value.int i t
 | .str x, u => ∃ t, u = Value.str x t
 | .byt b, u => ∃ t, u = Value.bytes b t
 | .flt b, u => ∃ t, u = Value.float b t
 | .ref a, u => u = Value.ref a
 | .ty n, u => u = Value.type n
abbrev Vals : List V -> List Value -> Prop := Paired RelV
theorem Vals.length {xs : List V} {us : List Value} (r : Vals xs us) : xs.length = us.length := Paired.length r
theorem Vals.get : ∀ {xs : List V} {us : List Value} {i : Nat} {x : V}, Vals xs us -> xs[i]? = some x -> ∃ u, us[i]? = some u /\ RelV x u
 | _, _, _, _, .nil, e => by simp at e
 | _, _, 0, _, .cons r _, e => by simp at e; subst e; exact ⟨_, rfl, r⟩
 | _, _, i + 1, x, .cons _ t, e => by
  obtain ⟨u, h1, h2⟩ := Vals.get (i := i) (x := x) t (by simpa using e)
  exact ⟨u, by simpa using h1, h2⟩
theorem Vals.set {x : V} {u : Value} (r : RelV x u) : ∀ {xs : List V} {us : List Value} (i : Nat), Vals xs us -> Vals (xs.set i x) (us.set i u)
 | _, _, _, .nil => .nil
 | _, _, 0, .cons _ t => .cons r t
 | _, _, i + 1, .cons q t => .cons q (Vals.set r i t)
theorem Vals.append : ∀ {xs ys : List V} {us ws : List Value}, Vals xs us -> Vals ys ws -> Vals (xs ++ ys) (us ++ ws)
 | _, _, _, _, .nil, s => s
 | _, _, _, _, .cons r t, s => .cons r (Vals.append t s)
theorem Vals.take : ∀ {xs : List V} {us : List Value} (n : Nat), Vals xs us -> Vals (xs.take n) (us.take n)
 | _, _, 0, _ => .nil
 | _, _, _ + 1, .nil => .nil
 | _, _, n + 1, .cons r t => .cons r (Vals.take n t)
theorem Vals.drop : ∀ {xs : List V} {us : List Value} (n : Nat), Vals xs us -> Vals (xs.drop n) (us.drop n)
 | _, _, 0, r => r
 | _, _, _ + 1, .nil => .nil
 | _, _, n + 1, .cons _ t => Vals.drop n t
def RelO : Option V -> Option Value -> Prop
 | some v, some u => RelV v u
 | none, none => True
 | _, _ => False
def KV {κ : Type} : List (κ × V) -> List (κ × Value) -> Prop := Paired fun (p : κ × V) (q : κ × Value) => p.1 = q.1 /\ RelV p.2 q.2
def kV : Key -> V
 | .inl i => .int i
 | .inr x => .str x
inductive HO where
 /-- a list -/
 | lst (xs : List V)
 /-- a tuple (never changes) -/
 | tup (xs : List V)
 /-- a dict whose keys are ints and texts; one whose keys are tuples of ints and texts (the empty one is both) -/
 | dK (kvs : List (Key × V)) | dT (kvs : List (List Key × V))
 /-- a set of ints: its members, its size -/
 | set (S : Int -> Bool) (n : Nat)
 /-- an instance of the class at C, its dict at dx, its attributes -/
 | ins (C dx : Addr) (fs : List (Str × V))
 /-- the dict of the instance at x -/
 | own (x : Addr)
 /-- the dict of an exception -/
 | xd (fs : List (Str × V))
 /-- a bound method, f of x -/
 | met (f x : Addr)
 /-- a range object lo, lo + 1, .. below hi -/
 | rng (lo hi : Int)
 /-- a thing that is known to the object (the script; a dict while a loop walks it): read, never written while it is so -/
 | frz (o : Obj) (u : HO)
 /-- a code object's table -/
 | tbl (ps : Array Value)
 /-- any other thing, by what is true of its one object (a def of one's own: SetO a S n := HO.ext fun h => ..) -/
 | ext (φ : Heap -> Prop)
abbrev Hp := Addr -> Option HO
def upd (H : Hp) (a : Addr) (o : HO) : Hp := fun b => if b = a then some o else H b
theorem aC {H : Hp} {a : Addr} {o : HO} : upd H a o a = some o := by unfold upd; rw [if_pos rfl]
theorem aQ {H : Hp} {a b : Addr} {o : HO} (h : b ≠ a) : upd H a o b = H b := by unfold upd; rw [if_neg h]
theorem mG {H : Hp} {a : Addr} {o u : HO} : upd (upd H a o) a u = upd H a u := by
 funext b; unfold upd; split <;> rfl
theorem ne_of {H : Hp} {a b : Addr} {o u : HO} (h : H a = some o) (h' : H b = some u) (d : o ≠ u) : a ≠ b := by
 intro e; subst e; rw [h] at h'; exact d (Option.some.inj h')
theorem bH {H : Hp} {a b : Addr} {o : HO} (h : H a = some o) (h' : H b = none) : a ≠ b := by
 intro e; subst e; rw [h] at h'; cases h'
section
variable (P : Program) (w : World)
def ObjOk (H : Hp) (h : Heap) (a : Addr) : HO -> Prop
 | .lst xs => xs.length <= sizeLine /\ ∃ (its : List Value) (n : Nat), Vals xs its /\ h.get? a = some { cls := .type "list", data := .seq its.toArray n }
 | .tup xs => xs.length <= sizeLine /\ ∃ its : List Value, Vals xs its /\ IsTup h a its.toArray
 | .dK kvs => kvs.length <= sizeLine /\ (a == sysModules) = false /\ ∃ vs, KV kvs vs /\ h.DictOf (mixKind P w) a vs
 | .dT kvs => kvs.length <= sizeLine /\ (a == sysModules) = false /\ ∃ xs : List (List Key × Addr × Value),
   Paired (fun (p : List Key × V) (q : List Key × Addr × Value) => p.1 = q.1 /\ H q.2.1 = some (.tup (p.1.map kV)) /\ RelV p.2 q.2.2) kvs xs /\
   ∃ o es ep, h.get? a = some o /\ o.ExactDict /\ o.data = .dict es ep /\ es.toList = xs.map (entryOfKey (tupleKind (mixKind P w))) /\ (xs.map (·.1)).Nodup
 | .set S n => h.SetOf (intKind P w) a S n
 | .ins C dx fs => H dx = some (.own a) /\ fs.length <= 1000 /\ dx ≠ a /\ h.get? a = some (PySem.W.instObj C dx) /\
   ∃ mA, h.Ns1 dx mA /\ (∀ f, RelO (fs.lookup f) (mA f)) /\ PySem.Within mA (fs.map (·.1))
 | .own _ => ∃ o, h.get? a = some o
 | .xd fs => ∃ mA, h.Ns1 a mA /\ ∀ f, RelO (fs.lookup f) (mA f)
 | .rng lo hi => ∃ t u v, h.get? a = some { cls := .type "range", data := .fields #[.int lo t, .int hi u, .int 1 v] }
 | .frz o u => h.get? a = some o /\ ObjOk H h a u
 | .tbl ps => h.get? a = some { cls := .none, data := .fields ps }
 | .met f x => h.get? a = some (PySem.W.methodObj (.ref f) (.ref x))
 | .ext φ => φ h /\ (∃ o, h.get? a = some o) /\ ∀ h1 h2 : Heap, φ h1 -> (∀ o, h1.get? a = some o -> h2.get? a = some o) -> φ h2
def HOk (H : Hp) (h : Heap) : Prop := ∀ a o, H a = some o -> ObjOk P w H h a o
end
section
variable {P : Program} {w : World} {H H' : Hp} {h h' : Heap} {a : Addr} {o : HO}
theorem ObjOk.lt (x : ObjOk P w H h a o) : a < h.objs.size := by
 cases o with
 | lst xs => obtain ⟨_, _, _, _, e⟩ := x; exact Heap.lt_size e
 | tup xs => obtain ⟨_, _, _, p⟩ := x; exact p.lt
 | dK kvs => obtain ⟨_, _, _, _, o, _, _, e, _⟩ := x; exact Heap.lt_size e
 | dT kvs => obtain ⟨_, _, _, _, o, _, _, e, _⟩ := x; exact Heap.lt_size e
 | set S n => obtain ⟨o, _, _, _, e, _⟩ := x; exact Heap.lt_size e
 | ins C dx fs => obtain ⟨_, _, _, e, _⟩ := x; exact Heap.lt_size e
 | own y => obtain ⟨_, e⟩ := x; exact Heap.lt_size e
 | xd fs => obtain ⟨_, ⟨_, _, _, e, _⟩, _⟩ := x; exact Heap.lt_size e
 | rng lo hi => obtain ⟨_, _, _, e⟩ := x; exact Heap.lt_size e
 | frz ob u => obtain ⟨e, _⟩ := x; exact Heap.lt_size e
 | tbl ps => exact Heap.lt_size (show h.get? a = some _ from x)
 | met f y => exact Heap.lt_size (show h.get? a = some _ from x)
 | ext φ => obtain ⟨_, ⟨_, e⟩, _⟩ := x; exact Heap.lt_size e
theorem Paired.mapP {α β : Type} {F G : α -> β -> Prop} : ∀ {l₁ : List α} {l₂ : List β}, Paired F l₁ l₂ -> (∀ a b, F a b -> G a b) -> Paired G l₁ l₂
 | _, _, .nil, _ => .nil
 | _, _, .cons r t, f => .cons (f _ _ r) (Paired.mapP t f)
theorem ObjOk.stay (x : ObjOk P w H h a o) (k : ∀ b u, (b = a \/ H b = some (.own a)) -> h.get? b = some u -> h'.get? b = some u)
  (ho : ∀ b, H b = some (.own a) -> H' b = some (.own a)) (ht : ∀ b xs, H b = some (.tup xs) -> H' b = some (.tup xs)) : ObjOk P w H' h' a o := by
 induction o with
 | lst xs => obtain ⟨z, its, n, r, e⟩ := x; exact ⟨z, its, n, r, k _ _ (.inl rfl) e⟩
 | tup xs => obtain ⟨z, its, r, ob, e, c⟩ := x; exact ⟨z, its, r, ob, k _ _ (.inl rfl) e, c⟩
 | dK kvs => obtain ⟨z, y, vs, r, ob, es, ep, e, c⟩ := x; exact ⟨z, y, vs, r, ob, es, ep, k _ _ (.inl rfl) e, c⟩
 | dT kvs =>
  obtain ⟨z, y, xs, r, ob, es, ep, e, c⟩ := x
  exact ⟨z, y, xs, Paired.mapP r fun p q z => ⟨z.1, ht _ _ z.2.1, z.2.2⟩, ob, es, ep, k _ _ (.inl rfl) e, c⟩
 | set S n => obtain ⟨ob, es, ep, t, e, c⟩ := x; exact ⟨ob, es, ep, t, k _ _ (.inl rfl) e, c⟩
 | ins C dx fs =>
  obtain ⟨d, z, ne, e, mA, ⟨od, es, ep, e2, c⟩, r⟩ := x
  exact ⟨ho _ d, z, ne, k _ _ (.inl rfl) e, mA, ⟨od, es, ep, k _ _ (.inr d) e2, c⟩, r⟩
 | own y => obtain ⟨ob, e⟩ := x; exact ⟨ob, k _ _ (.inl rfl) e⟩
 | xd fs => obtain ⟨mA, ⟨od, es, ep, e, c⟩, r⟩ := x; exact ⟨mA, ⟨od, es, ep, k _ _ (.inl rfl) e, c⟩, r⟩
 | rng lo hi => obtain ⟨t, u, v, e⟩ := x; exact ⟨t, u, v, k _ _ (.inl rfl) e⟩
 | frz ob u ih => obtain ⟨e, q⟩ := x; exact ⟨k _ _ (.inl rfl) e, ih q⟩
 | tbl ps =>
  have e : h.get? a = some { cls := .none, data := .fields ps } := x
  show h'.get? a = some { cls := .none, data := .fields ps }
  exact k a _ (.inl rfl) e
 | met f y =>
  have e : h.get? a = some (PySem.W.methodObj (.ref f) (.ref y)) := x
  show h'.get? a = some (PySem.W.methodObj (.ref f) (.ref y))
  exact k a _ (.inl rfl) e
 | ext φ => obtain ⟨p, ⟨o, e⟩, st⟩ := x; exact ⟨st _ _ p fun o q => k _ _ (.inl rfl) q, ⟨o, k _ _ (.inl rfl) e⟩, st⟩
theorem HOk.lt (x : HOk P w H h) (e : H a = some o) : a < h.objs.size := (x a o e).lt
theorem HOk.fresh (x : HOk P w H h) (e : h.objs.size <= a) : H a = none := by
 cases q : H a with
 | none => rfl
 | some u => exact absurd (Nat.lt_of_lt_of_le (x.lt q) e) (Nat.lt_irrefl _)
theorem HOk.kept (x : HOk P w H h) (k : ∀ b u, h.get? b = some u -> h'.get? b = some u) : HOk P w H h' := fun a o e =>
 (x a o e).stay (fun b u _ q => k b u q) (fun _ q => q) fun _ _ q => q
theorem HOk.laid (x : HOk P w H h) (k : ∀ b u, h.get? b = some u -> h'.get? b = some u) (hp : h.objs.size <= a) (new : ObjOk P w (upd H a o) h' a o) : HOk P w (upd H a o) h' := fun b u e => by
 have hn := x.fresh hp
 by_cases hb : b = a
 ·subst hb; rw [aC] at e; cases e; exact new
 ·rw [aQ hb] at e
  exact (x b u e).stay (fun c v _ q => k c v q) (fun c q => by rw [aQ (bH q hn)]; exact q) fun c xs q => by rw [aQ (bH q hn)]; exact q
end
def Rd (H : Hp) (a : Addr) (u : HO) : Prop := H a = some u \/ ∃ o, H a = some (.frz o u)
theorem Rd.ok {P : Program} {w : World} {H : Hp} {h : Heap} {a : Addr} {u : HO} (r : Rd H a u) (x : HOk P w H h) : ObjOk P w H h a u := by
 rcases r with r | ⟨o, r⟩
 ·exact x a u r
 ·obtain ⟨_, q⟩ := x a _ r
  exact q
def Mut : Option HO -> Prop
 | some (.lst _) => True
 | some (.dK _) => True
 | some (.dT _) => True
 | some (.set _ _) => True
 | some (.ins _ _ _) => True
 | some (.ext _) => True
 | _ => False
section
variable {P : Program} {w : World} {H : Hp} {h h' : Heap} {x e : Addr} {o' : HO}
theorem HOk.write (ok : HOk P w H h) (mu : Mut (H x)) (he : e = x \/ H e = some (.own x)) (k : ∀ b u, b ≠ e -> h.get? b = some u -> h'.get? b = some u) (heo : ∃ u, h'.get? e = some u)
  (new : ObjOk P w (upd H x o') h' x o') : HOk P w (upd H x o') h' := fun b u q => by
 have nown : ∀ c y, H c = some (.own y) -> c ≠ x := fun c y r z => by subst z; rw [r] at mu; exact mu
 have ntup : ∀ c xs, H c = some (.tup xs) -> c ≠ x := fun c xs r z => by subst z; rw [r] at mu; exact mu
 by_cases hb : b = x
 ·subst hb; rw [aC] at q; cases q; exact new
 ·rw [aQ hb] at q
  by_cases hbe : b = e
  ·have q' : H b = some (.own x) := by
    rcases he with z | z
    ·exact absurd (hbe.trans z) hb
    ·rw [hbe]; exact z
   rw [q] at q'; cases q'
   obtain ⟨v, hv⟩ := heo
   exact ⟨v, by rw [hbe]; exact hv⟩
  ·refine (ok b u q).stay (fun c v hc r => k c v ?_ r) (fun c r => by rw [aQ (nown c b r)]; exact r) fun c xs r => by rw [aQ (ntup c xs r)]; exact r
   rcases hc with rfl | hc
   ·exact hbe
   ·rintro rfl
    rcases he with z | z
    ·exact nown c b hc z
    ·rw [hc] at z; cases z; exact hb rfl
end
structure Un (fs ex : List Addr) (H H' : Hp) (h h' : Heap) : Prop where
 keep : ∀ b o, h.get? b = some o -> H b = none -> b ∉ fs -> b ∉ ex -> h'.get? b = some o
 slot : ∀ b o, h.get? b = some o -> H b = none -> b ∈ fs -> b ∉ ex -> ∃ sl, h'.get? b = some { o with slots := sl }
 free : ∀ b o, h.get? b = some o -> H b = none -> b ∉ ex -> H' b = none
 there : ∀ b o, h.get? b = some o -> b ∉ ex -> ∃ o', h'.get? b = some o'
 tups : ∀ b xs, H b = some (.tup xs) -> H' b = some (.tup xs)
 frzs : ∀ b o u, H b = some (.frz o u) -> H' b = some (.frz o u)
 tbls : ∀ b ps, H b = some (.tbl ps) -> ∃ more, H' b = some (.tbl (ps ++ more))
section
variable {fs fs' ex ex' : List Addr} {H H1 H2 : Hp} {h h1 h2 h' : Heap} {a x e : Addr} {o : HO}
theorem Un.any (u : Un fs ex H H1 h h1) {b : Addr} {ob : Obj} (q : h.get? b = some ob) (n : H b = none) (hx : b ∉ ex) : ∃ sl, h1.get? b = some { ob with slots := sl } := by
 by_cases hb : b ∈ fs
 ·exact u.slot b ob q n hb hx
 ·exact ⟨ob.slots, u.keep b ob q n hb hx⟩
theorem Un.kept (k : ∀ b u, h.get? b = some u -> h'.get? b = some u) : Un fs ex H H h h' :=
 ⟨fun b ob q _ _ _ => k b ob q, fun b ob q _ _ _ => ⟨ob.slots, k b ob q⟩, fun _ _ _ n _ => n, fun b ob q _ => ⟨ob, k b ob q⟩, fun _ _ q => q, fun _ _ _ q => q, fun _ ps q => ⟨#[], by rw [q]; simp⟩⟩
theorem Un.refl : Un fs ex H H h h := Un.kept fun _ _ q => q
theorem Un.laid (k : ∀ b u, h.get? b = some u -> h'.get? b = some u) (hp : h.objs.size <= a) (hn : H a = none) : Un fs ex H (upd H a o) h h' where
 keep := fun b u q _ _ _ => k b u q
 slot := fun b u q _ _ _ => ⟨u.slots, k b u q⟩
 free := fun b u q n _ => by rw [aQ (Nat.ne_of_lt (Nat.lt_of_lt_of_le (Heap.lt_size q) hp))]; exact n
 there := fun b u q _ => ⟨u, k b u q⟩
 tups := fun b xs q => by rw [aQ (bH q hn)]; exact q
 frzs := fun b u xs q => by rw [aQ (bH q hn)]; exact q
 tbls := fun b ps q => ⟨#[], by rw [aQ (bH q hn), q]; simp⟩
theorem Un.write (mu : Mut (H x)) (he : e = x \/ H e = some (.own x)) (k : ∀ b u, b ≠ e -> h.get? b = some u -> h'.get? b = some u) (heo : ∃ u, h'.get? e = some u) : Un fs ex H (upd H x o) h h' := by
 have hx : ∀ b, H b = none -> b ≠ x := fun b n z => by subst z; rw [n] at mu; exact mu
 have hb : ∀ b, H b = none -> b ≠ e := fun b n z => by
  subst z
  rcases he with r | r
  ·exact hx b n r
  ·rw [n] at r; cases r
 have hm : ∀ b u, H b = some u -> ¬ Mut (some u) -> b ≠ x := fun b u q nm z => by subst z; rw [q] at mu; exact nm mu
 refine ⟨fun b u q n _ _ => k b u (hb b n) q, fun b u q n _ _ => ⟨u.slots, k b u (hb b n) q⟩, fun b u q n _ => by rw [aQ (hx b n)]; exact n, fun b u q _ => ?_,
  fun b xs q => by rw [aQ (hm b _ q fun z => z)]; exact q, fun b u xs q => by rw [aQ (hm b _ q fun z => z)]; exact q, fun b ps q => ⟨#[], by rw [aQ (hm b _ q fun z => z), q]; simp⟩⟩
 by_cases hbe : b = e
 ·subst hbe; exact heo
 ·exact ⟨u, k b u hbe q⟩
end
def trk (h : Heap) (H : Hp) : List Addr := (List.range h.objs.size).filter fun a => (H a).isSome
def kR (h : Heap) (H : Hp) : Heap := PySem.W.hideAll h (trk h H)
theorem hidT_size (h : Heap) (H : Hp) : (kR h H).objs.size = h.objs.size := PySem.W.hideAll_size _ _
theorem hidT_get {h : Heap} {H : Hp} {b : Addr} {o : Obj} (e : h.get? b = some o) (n : H b = none) : (kR h H).get? b = some o :=
 PySem.W.hideAll_get _ e fun hm => by
  have q : (H b).isSome = true := (List.mem_filter.mp hm).2
  rw [n] at q; simp at q
theorem of_hidT {h : Heap} {H : Hp} {b : Addr} {o : Obj} (e : (kR h H).get? b = some o) : h.get? b = some o /\ H b = none := by
 have e' : h.get? b = some o := PySem.W.of_hideAll (trk h H) e
 refine ⟨e', ?_⟩
 cases q : H b with
 | none => rfl
 | some x =>
  have hm : b ∈ trk h H := List.mem_filter.mpr ⟨List.mem_range.mpr (Heap.lt_size e'), by simp [q]⟩
  have z : (kR h H).get? b = none := PySem.W.hideAll_none (trk h H) hm
  rw [z] at e; cases e
end L2
namespace L2
open PySem PySem.Spec PyProof.Rows
structure Mod (K : PySem.W.Frag) (mg : Str -> Option Value) (base : Heap) : Prop where
 kin : K.In base
 glob : base.Ns mainGlobals mg
 blt : ∃ mb, base.Ns builtinsNs mb /\ ∀ x : Str, x ≠ "__name__" -> mb x = bootBuiltins x
 nolimit : base.NoLimit
structure Cx where
 prog : Program
 w : World
 K : PySem.W.Frag
 mg : Str -> Option Value
 base : Heap
 A : Around
 N : List Str
 s₀ : Shared
 H₀ : Hp
 env : Env
 outer : List Env
 stack : List Env
 ex : List Addr
 fn : Str -> Bool
 calm : Bool
 pn : List (Addr × Obj)
 xe : Value -> Shared -> Prop
def frs (l : List Env) : List Addr := l.filterMap (·.frame)
abbrev Cx.fs (X : Cx) : List Addr := frs X.outer
def Vis (sc : Scope) (x : Str) : Prop := sc.names.lookup x = some .local \/ sc.names.lookup x = some .cell \/ sc.names.lookup x = some .free
def Loc (sc : Scope) (x : Str) : Prop := sc.names.lookup x = some .local \/ sc.names.lookup x = some .cell
def Look (env : Env) (h : Heap) (m : Str -> Option Value) (x : Str) (u : Value) : Prop :=
 (env.kindOf x = some .local /\ m x = some u) \/ ((env.kindOf x = some .cell \/ env.kindOf x = some .free) /\ ∃ c, env.cells.lookup x = some c /\ h.IsCell c (some u))
structure Cx.Ok (X : Cx) : Prop where
 mod : Mod X.K X.mg X.base
 kind : X.env.scope.kind = .function
 glob : X.env.globals = mainGlobals
 blt : X.env.builtins = builtinsNs
 above : X.s₀.heap.objs.size <= X.env.locals
 inj : ∀ x y c, X.env.cells.lookup x = some c -> X.env.cells.lookup y = some c -> x = y
 has : ∀ x, (X.env.kindOf x = some .cell \/ X.env.kindOf x = some .free) -> ∃ c, X.env.cells.lookup x = some c
 cab : ∀ x c, X.fn x = true -> X.env.cells.lookup x = some c -> X.s₀.heap.objs.size <= c
 hd : X.calm = true -> X.A.handled = none
 frames : X.A.frames = some X.stack
 stk : X.stack = X.outer \/ (X.stack = X.env :: X.outer /\ X.env.frame = some X.env.locals)
 exf : ∀ b ∈ X.ex, b ≠ X.env.locals /\ ∀ x c, X.env.cells.lookup x = some c -> c ≠ b
 bs : ∀ b o, X.base.get? b = some o -> X.s₀.heap.get? b = some o /\ X.H₀ b = none
 bsz : X.base.objs.size <= X.s₀.heap.objs.size
 noex : ∀ b o, X.base.get? b = some o -> b ∉ X.ex
 exfs : ∀ b ∈ X.ex, b ∉ X.fs
 funs : X.s₀.heap.FunFrames X.base X.outer
 frf : ∀ b ∈ X.fs, X.H₀ b = none
structure Inv (X : Cx) (pins : List (Addr × Obj)) (σ : List (Option V)) (H : Hp) (s : Shared) : Prop where
 ok : X.Ok
 os : s.os = X.s₀.os
 bare : AllBare s.gens
 base : Un X.fs X.ex X.H₀ H X.s₀.heap s.heap
 loc : ∃ m, s.heap.Ns X.env.locals m /\ ∀ (i : Nat) (x : Str) (v : V), X.N[i]? = some x -> σ[i]? = some (some v) -> Vis X.env.scope x -> ∃ u, RelV v u /\ Look X.env s.heap m x u
 cell : ∀ x c, X.env.cells.lookup x = some c -> ∃ v, s.heap.IsCell c v
 free : H X.env.locals = none
 freeC : ∀ x c, X.env.cells.lookup x = some c -> H c = none
 pin : ∀ p ∈ X.pn ++ pins, s.heap.get? p.1 = some p.2 /\ H p.1 = none /\ p.1 ≠ X.env.locals /\ p.1 ∉ X.fs /\ ∀ v, p.2.data ≠ .cell v
 hok : HOk X.prog X.w H s.heap
 len : σ.length = X.N.length
section
variable {X : Cx} {pins : List (Addr × Obj)} {σ : List (Option V)} {H H' : Hp} {s : Shared} {h' : Heap}
theorem Cx.Ok.nofr (ok : X.Ok) {b : Addr} {o : Obj} (e : X.base.get? b = some o) : b ∉ X.fs := fun hb => by
 have := (ok.funs.mem hb).1
 rw [e] at this; cases this
theorem Inv.bs (I : Inv X pins σ H s) : ∀ b o, X.base.get? b = some o -> s.heap.get? b = some o /\ H b = none := fun b o e =>
 ⟨I.base.keep b o (I.ok.bs b o e).1 (I.ok.bs b o e).2 (I.ok.nofr e) (I.ok.noex b o e), I.base.free b o (I.ok.bs b o e).1 (I.ok.bs b o e).2 (I.ok.noex b o e)⟩
theorem Inv.bk (I : Inv X pins σ H s) : ∀ b o, X.base.get? b = some o -> s.heap.get? b = some o := fun b o e => (I.bs b o e).1
theorem Inv.mod (I : Inv X pins σ H s) : Mod X.K X.mg X.base := I.ok.mod
theorem Inv.kIn (I : Inv X pins σ H s) : X.K.In s.heap := I.ok.mod.kin.keeps I.bk
theorem Inv.fr (I : Inv X pins σ H s) : ∃ m, Fr X.base X.env.locals s.heap m :=
 let ⟨m, hn, _⟩ := I.loc
 ⟨m, hn, I.bk, Nat.le_trans I.ok.bsz I.ok.above⟩
theorem Inv.lt (I : Inv X pins σ H s) : X.env.locals < s.heap.objs.size := let ⟨_, hn, _⟩ := I.loc; hn.lt
theorem Inv.sz (I : Inv X pins σ H s) : X.s₀.heap.objs.size <= s.heap.objs.size := Nat.le_trans I.ok.above (Nat.le_of_lt I.lt)
theorem Inv.nofs (I : Inv X pins σ H s) {a : Addr} (h : s.heap.objs.size <= a) : a ∉ X.fs := fun hb => by
 obtain ⟨_, o, ho, _⟩ := I.ok.funs.mem hb
 exact absurd (Nat.lt_of_lt_of_le (Heap.lt_size ho) (Nat.le_trans I.sz h)) (Nat.lt_irrefl _)
theorem Inv.cne (I : Inv X pins σ H s) : ∀ x c, X.env.cells.lookup x = some c -> c ≠ X.env.locals := fun x c e z => by
 obtain ⟨v, o, ho, hd⟩ := I.cell x c e
 obtain ⟨m, ⟨o', es, ep, ho', hd', _⟩, _⟩ := I.loc
 rw [z, ho'] at ho; cases ho; rw [hd'] at hd; cases hd
theorem Inv.funs (I : Inv X pins σ H s) : s.heap.FunFrames X.base X.outer := by
 have all : ∀ (l : List Env), (∀ b ∈ frs l, b ∈ X.fs) -> X.s₀.heap.FunFrames X.base l -> s.heap.FunFrames X.base l := by
  intro l
  induction l with
  | nil => intro _ _; trivial
  | cons env r ih =>
   intro hs hl
   obtain ⟨hk, ⟨L, o, hf, hn, ho, hd⟩, hr⟩ := hl
   have hL : L ∈ X.fs := hs L (by unfold frs; rw [List.filterMap_cons, hf]; exact List.mem_cons_self)
   obtain ⟨sl, e⟩ := I.base.slot L o ho (I.ok.frf L hL) hL fun z => I.ok.exfs L z hL
   exact ⟨hk, ⟨L, _, hf, hn, e, hd⟩, ih (fun b hb => hs b (by unfold frs; rw [List.filterMap_cons, hf]; exact List.mem_cons_of_mem _ hb)) hr⟩
 exact all X.outer (fun _ hb => hb) I.ok.funs
theorem Inv.stack (I : Inv X pins σ H s) : s.heap.FunFrames X.base X.stack := by
 rcases I.ok.stk with e | ⟨e, hf⟩
 ·rw [e]; exact I.funs
 ·rw [e]
  obtain ⟨m, hn, _⟩ := I.loc
  refine .cons (by rw [I.ok.kind]; decide) hf hn ?_ I.funs
  exact Heap.get?_none_of_le (Nat.le_trans I.ok.bsz I.ok.above)
theorem Inv.stkSub (I : Inv X pins σ H s) : ∀ b ∈ frs X.stack, b ∈ X.env.locals :: X.fs := fun b hb => by
 rcases I.ok.stk with e | ⟨e, hf⟩
 ·rw [e] at hb; exact List.mem_cons_of_mem _ hb
 ·rw [e] at hb
  unfold frs at hb
  rw [List.filterMap_cons, hf] at hb
  exact hb
theorem Inv.stkFree (I : Inv X pins σ H s) : ∀ b ∈ frs X.stack, H b = none := fun b hb => by
 rcases List.mem_cons.mp (I.stkSub b hb) with e | hb
 ·rw [e]; exact I.free
 ·obtain ⟨_, o, ho, _⟩ := I.ok.funs.mem hb
  exact I.base.free b o ho (I.ok.frf b hb) fun z => I.ok.exfs b z hb
theorem Inv.step {g' : Array GenState} {t' : Nat} {d' : Drawn} {ch : List Addr} (I : Inv X pins σ H s)
  (hch : ∀ b ∈ ch, (b ∈ X.ex \/ X.s₀.heap.objs.size <= b) /\ b ≠ X.env.locals /\ (∀ x c, X.env.cells.lookup x = some c -> c ≠ b) /\ ∀ p ∈ X.pn ++ pins, p.1 ≠ b)
  (keep : ∀ b o, b ≠ X.env.locals -> b ∉ X.fs -> b ∉ ch -> s.heap.get? b = some o -> H b = none -> h'.get? b = some o)
  (slot : ∀ b o, b ≠ X.env.locals -> b ∈ X.fs -> b ∉ ch -> s.heap.get? b = some o -> H b = none -> ∃ sl, h'.get? b = some { o with slots := sl }) (free : ∀ b o, b ∉ ch -> s.heap.get? b = some o -> H b = none -> H' b = none)
  (there : ∀ b o, b ∉ ch -> s.heap.get? b = some o -> ∃ o', h'.get? b = some o')
  (tups : ∀ b xs, H b = some (.tup xs) -> H' b = some (.tup xs)) (frzs : ∀ b o u, H b = some (.frz o u) -> H' b = some (.frz o u)) (tbls : ∀ b ps, H b = some (.tbl ps) -> ∃ more, H' b = some (.tbl (ps ++ more)))
  (ns : ∀ m, s.heap.Ns X.env.locals m -> h'.Ns X.env.locals m) (hok : HOk X.prog X.w H' h') (hg : AllBare g') :
  Inv X pins σ H' { s with heap := h', gens := g', drawn := d', toks := t' } := by
 have neL : ∀ b o, X.s₀.heap.get? b = some o -> b ≠ X.env.locals := fun b o e => Nat.ne_of_lt (Nat.lt_of_lt_of_le (Heap.lt_size e) I.ok.above)
 have neC : ∀ b o, X.s₀.heap.get? b = some o -> b ∉ X.ex -> b ∉ ch := fun b o e hx hb => by
  rcases (hch b hb).1 with z | z
  ·exact hx z
  ·exact absurd (Nat.lt_of_lt_of_le (Heap.lt_size e) z) (Nat.lt_irrefl _)
 have cellK : ∀ x c, X.env.cells.lookup x = some c -> ∀ v, s.heap.IsCell c v -> h'.IsCell c v := fun x c e v ⟨o, ho, hd⟩ => by
  have nch : c ∉ ch := fun z => (hch c z).2.2.1 x c e rfl
  by_cases hc : c ∈ X.fs
  ·obtain ⟨sl, q⟩ := slot c o (I.cne x c e) hc nch ho (I.freeC x c e)
   exact ⟨_, q, hd⟩
  ·exact ⟨o, keep c o (I.cne x c e) hc nch ho (I.freeC x c e), hd⟩
 refine ⟨I.ok, I.os, hg, ⟨fun b o e n hb hx => ?_, fun b o e n hb hx => ?_, fun b o e n hx => ?_, fun b o e hx => ?_, fun b xs e => tups b xs (I.base.tups b xs e), fun b o xs e => frzs b o xs (I.base.frzs b o xs e), fun b ps e => ?_⟩, ?_, fun x c e => ?_, ?_, fun x c e => ?_, fun p hp => ?_, hok, I.len⟩
 ·exact keep b o (neL b o e) hb (neC b o e hx) (I.base.keep b o e n hb hx) (I.base.free b o e n hx)
 ·obtain ⟨sl, e1⟩ := I.base.slot b o e n hb hx
  obtain ⟨sl', e2⟩ := slot b _ (neL b o e) hb (neC b o e hx) e1 (I.base.free b o e n hx)
  exact ⟨sl', e2⟩
 ·obtain ⟨o', e1⟩ := I.base.there b o e hx
  exact free b o' (neC b o e hx) e1 (I.base.free b o e n hx)
 ·obtain ⟨o', e1⟩ := I.base.there b o e hx
  exact there b o' (neC b o e hx) e1
 ·obtain ⟨m1, e1⟩ := I.base.tbls b ps e
  obtain ⟨m2, e2⟩ := tbls b _ e1
  exact ⟨m1 ++ m2, by rw [e2, Array.append_assoc]⟩
 ·obtain ⟨m, hn, hl⟩ := I.loc
  refine ⟨m, ns m hn, fun i x v e1 e2 e3 => ?_⟩
  obtain ⟨u, r, l⟩ := hl i x v e1 e2 e3
  refine ⟨u, r, ?_⟩
  rcases l with l | ⟨k, c, e, z⟩
  ·exact .inl l
  ·exact .inr ⟨k, c, e, cellK x c e _ z⟩
 ·obtain ⟨v, z⟩ := I.cell x c e
  exact ⟨v, cellK x c e v z⟩
 ·obtain ⟨m, ⟨o, _, _, ho, _⟩, _⟩ := I.loc
  exact free _ o (fun z => (hch _ z).2.1 rfl) ho I.free
 ·obtain ⟨v, o, ho, hd⟩ := I.cell x c e
  exact free c o (fun z => (hch c z).2.2.1 x c e rfl) ho (I.freeC x c e)
 ·obtain ⟨e, n, ne, nf, d⟩ := I.pin p hp
  have nch : p.1 ∉ ch := fun z => (hch p.1 z).2.2.2 p hp rfl
  exact ⟨keep p.1 p.2 ne nf nch e n, free p.1 p.2 nch e n, ne, nf, d⟩
theorem Inv.un {t' : Nat} (I : Inv X pins σ H s) (u : Un X.fs [] H H' s.heap h') (hok : HOk X.prog X.w H' h') : Inv X pins σ H' { s with heap := h', toks := t' } := by
 obtain ⟨m, ⟨o, es, ep, ho, r⟩, _⟩ := id I.loc
 obtain ⟨sl, hL⟩ := u.any ho I.free (by simp)
 exact I.step (g' := s.gens) (d' := s.drawn) (ch := []) (fun _ z => nomatch z) (fun b o _ hb _ e n => u.keep b o e n hb (by simp)) (fun b o _ hb _ e n => u.slot b o e n hb (by simp)) (fun b o _ e n => u.free b o e n (by simp)) (fun b o _ e => u.there b o e (by simp)) u.tups u.frzs u.tbls (fun m' hm => by
  obtain ⟨o', es', ep', ho', r'⟩ := hm
  rw [ho] at ho'; cases ho'
  exact ⟨_, es', ep', hL, r'⟩) hok I.bare
theorem Inv.call {g' : Array GenState} {t' : Nat} {d' : Drawn} {ch : List Addr} (I : Inv X pins σ H s) (u : Un (frs X.stack) ch H H' s.heap h') (hok : HOk X.prog X.w H' h') (hg : AllBare g')
  (hch : ∀ b ∈ ch, (b ∈ X.ex \/ X.s₀.heap.objs.size <= b) /\ b ≠ X.env.locals /\ (∀ x c, X.env.cells.lookup x = some c -> c ≠ b) /\ ∀ p ∈ X.pn ++ pins, p.1 ≠ b) :
  Inv X pins σ H' { s with heap := h', gens := g', drawn := d', toks := t' } := by
 obtain ⟨m, ⟨o, es, ep, ho, r⟩, _⟩ := id I.loc
 obtain ⟨sl, hL⟩ := u.any ho I.free fun z => (hch _ z).2.1 rfl
 exact I.step (ch := ch) hch (fun b o hL hb hc e n => u.keep b o e n (fun z => (List.mem_cons.mp (I.stkSub b z)).elim hL hb) hc) (fun b o _ _ hc e n => u.any e n hc) (fun b o hc e n => u.free b o e n hc) (fun b o hc e => u.there b o e hc) u.tups u.frzs u.tbls (fun m' hm => by
  obtain ⟨o', es', ep', ho', r'⟩ := hm
  rw [ho] at ho'; cases ho'
  exact ⟨_, es', ep', hL, r'⟩) hok hg
theorem Inv.turned {t' : Nat} {it : Addr} (I : Inv X pins σ H s) (k : ∀ b o, b ≠ it -> s.heap.get? b = some o -> h'.get? b = some o) (hn : H it = none) (hL : it ≠ X.env.locals)
  (h1 : it ∈ X.ex \/ X.s₀.heap.objs.size <= it) (h2 : ∀ x c, X.env.cells.lookup x = some c -> c ≠ it) (h3 : ∀ p ∈ X.pn ++ pins, p.1 ≠ it) : Inv X pins σ H { s with heap := h', toks := t' } := by
 have nit : ∀ b u, H b = some u -> b ≠ it := fun b u e z => by rw [z, hn] at e; cases e
 refine I.step (g' := s.gens) (d' := s.drawn) (ch := [it]) (fun b hb => ?_) (fun b o _ _ hc e _ => k b o (fun z => hc (by simp [z])) e) (fun b o _ _ hc e _ => ⟨o.slots, k b o (fun z => hc (by simp [z])) e⟩) (fun _ _ _ _ n => n)
  (fun b o hc e => ⟨o, k b o (fun z => hc (by simp [z])) e⟩) (fun _ _ e => e) (fun _ _ _ e => e) (fun b ps e => ⟨#[], by rw [e]; simp⟩) (fun m hm => ?_) (fun b u e => ?_) I.bare
 ·have e : b = it := by simpa using hb
  subst e
  exact ⟨h1, hL, h2, h3⟩
 ·obtain ⟨o, es, ep, ho, r⟩ := hm
  exact ⟨o, es, ep, k _ o (Ne.symm hL) ho, r⟩
 ·refine (I.hok b u e).stay (fun c v hc q => k c v ?_ q) (fun _ q => q) fun _ _ q => q
  rcases hc with z | z
  ·rw [z]; exact nit b u e
  ·exact nit c _ z
theorem Inv.tok (I : Inv X pins σ H s) (t : Nat) : Inv X pins σ H { s with toks := t } := I.un (h' := s.heap) (t' := t) Un.refl I.hok
theorem Inv.kept {t' : Nat} (I : Inv X pins σ H s) (k : ∀ b u, s.heap.get? b = some u -> h'.get? b = some u) : Inv X pins σ H { s with heap := h', toks := t' } := I.un (Un.kept k) (I.hok.kept k)
theorem Inv.laid {a : Addr} {o : HO} {t' : Nat} (I : Inv X pins σ H s) (k : ∀ b u, s.heap.get? b = some u -> h'.get? b = some u) (hp : s.heap.objs.size <= a) (new : ObjOk X.prog X.w (upd H a o) h' a o) :
  Inv X pins σ (upd H a o) { s with heap := h', toks := t' } := I.un (Un.laid k hp (I.hok.fresh hp)) (I.hok.laid k hp new)
theorem Inv.write {x e : Addr} {o : HO} {t' : Nat} (I : Inv X pins σ H s) (mu : Mut (H x)) (he : e = x \/ H e = some (.own x)) (k : ∀ b u, b ≠ e -> s.heap.get? b = some u -> h'.get? b = some u) (heo : ∃ u, h'.get? e = some u)
  (new : ObjOk X.prog X.w (upd H x o) h' x o) : Inv X pins σ (upd H x o) { s with heap := h', toks := t' } := I.un (Un.write mu he k heo) (I.hok.write mu he k heo new)
theorem Inv.weak {σ' : List (Option V)} (I : Inv X pins σ H s) (hl : σ'.length = σ.length) (w : ∀ (i : Nat) v, σ'[i]? = some (some v) -> σ[i]? = some (some v)) : Inv X pins σ' H s :=
 ⟨I.ok, I.os, I.bare, I.base, let ⟨m, hn, hl'⟩ := I.loc; ⟨m, hn, fun i x v e1 e2 e3 => hl' i x v e1 (w i v e2) e3⟩, I.cell, I.free, I.freeC, I.pin, I.hok, hl.trans I.len⟩
theorem Inv.pins_of {pins' : List (Addr × Obj)} (I : Inv X pins σ H s) (h : ∀ p ∈ pins', s.heap.get? p.1 = some p.2 /\ H p.1 = none /\ p.1 ≠ X.env.locals /\ p.1 ∉ X.fs /\ ∀ v, p.2.data ≠ .cell v) : Inv X pins' σ H s :=
 ⟨I.ok, I.os, I.bare, I.base, I.loc, I.cell, I.free, I.freeC, fun p hp => (List.mem_append.mp hp).elim (fun z => I.pin p (List.mem_append_left _ z)) (h p), I.hok, I.len⟩
theorem nH {N : List Str} (hN : N.Nodup) {i j : Nat} {x : Str} (a : N[i]? = some x) (b : N[j]? = some x) : i = j := by
 obtain ⟨h1, e1⟩ := List.getElem?_eq_some_iff.mp a
 obtain ⟨h2, e2⟩ := List.getElem?_eq_some_iff.mp b
 exact (List.getElem_inj hN).mp (e1.trans e2.symm)
theorem p9 {M : Model} {A : Around} {E : Value -> Shared -> Prop} {i : Nat} {x : Str} {v : V} {u : Value} {Q : Unit -> Shared -> Prop} (I : Inv X pins σ H s) (hN : X.N.Nodup) (hi : X.N[i]? = some x) (hx : Loc X.env.scope x) (r : RelV v u)
  (h : ∀ s', Inv X pins (σ.set i (some v)) H s' -> (∃ a, Heap.SameBut a s.heap s'.heap /\ (a = X.env.locals \/ X.env.cells.lookup x = some a)) -> Q () s') (hf : X.fn x = true \/ X.env.scope.names.lookup x = some .local := by first | exact .inl rfl | exact .inr rfl | assumption) : wpAny M A (storeName X.env x u) Q E s := by
 obtain ⟨m, hn, hl⟩ := id I.loc
 have hcls : (X.env.scope.kind == .class || (X.env.scope.kind == .module && X.env.locals != X.env.globals)) = false := by rw [I.ok.kind]; rfl
 have hiσ : i < σ.length := by rw [I.len]; exact (List.getElem?_eq_some_iff.mp hi).1
 have cne := I.cne
 have tracked : ∀ {a : Addr} {h' : Heap}, (∃ o, s.heap.get? a = some o /\ H a = none) -> Heap.SameBut a s.heap h' -> HOk X.prog X.w H h' := fun {a h'} ha hs b ob e => by
  obtain ⟨_, _, hfree⟩ := ha
  refine (I.hok b ob e).stay (fun c w' hc q => (hs.2 c ?_).trans q) (fun _ q => q) fun _ _ q => q
  rintro rfl
  rcases hc with rfl | hc
  ·rw [hfree] at e; cases e
  ·rw [hfree] at hc; cases hc
 rcases hx with hk | hk
 ·refine wpAny_storeName_local hk hn (fun h' hn' hs => ?_) hcls
  obtain ⟨oL, _, _, hoL, _⟩ := id hn
  refine h _ ⟨I.ok, I.os, I.bare, ⟨fun b o e n hb hx => ?_, fun b o e n hb hx => ?_, I.base.free, fun b o e hx => ?_, I.base.tups, I.base.frzs, I.base.tbls⟩, ⟨_, hn', fun j y v' e1 e2 e3 => ?_⟩, fun y c e => ?_, I.free, I.freeC, fun p hp => ?_, tracked ⟨oL, hoL, I.free⟩ hs, by simpa using I.len⟩ ⟨_, hs, .inl rfl⟩
  ·exact (hs.2 b (Nat.ne_of_lt (Nat.lt_of_lt_of_le (Heap.lt_size e) I.ok.above))).trans (I.base.keep b o e n hb hx)
  ·obtain ⟨sl, e1⟩ := I.base.slot b o e n hb hx
   exact ⟨sl, (hs.2 b (Nat.ne_of_lt (Nat.lt_of_lt_of_le (Heap.lt_size e) I.ok.above))).trans e1⟩
  ·obtain ⟨o', e1⟩ := I.base.there b o e hx
   exact ⟨o', (hs.2 b (Nat.ne_of_lt (Nat.lt_of_lt_of_le (Heap.lt_size e) I.ok.above))).trans e1⟩
  ·by_cases hj : j = i
   ·subst hj
    rw [hi] at e1; cases e1
    rw [List.getElem?_set_self hiσ] at e2
    cases e2
    exact ⟨u, r, .inl ⟨hk, by simp⟩⟩
   ·rw [List.getElem?_set_ne (Ne.symm hj)] at e2
    obtain ⟨u', r', q⟩ := hl j y v' e1 e2 e3
    refine ⟨u', r', ?_⟩
    rcases q with ⟨k, e⟩ | ⟨k, c, e, z⟩
    ·refine .inl ⟨k, ?_⟩
     have : y ≠ x := fun e => hj (nH hN e1 (e ▸ hi))
     simp [this, e]
    ·exact .inr ⟨k, c, e, z.sameBut hs (cne y c e)⟩
  ·obtain ⟨w', z⟩ := I.cell y c e
   exact ⟨w', z.sameBut hs (cne y c e)⟩
  ·obtain ⟨e, n, ne, nf, d⟩ := I.pin p hp
   exact ⟨(hs.2 p.1 ne).trans e, n, ne, nf, d⟩
 ·have hfn : X.fn x = true := by
   rcases hf with z | z
   ·exact z
   ·rw [z] at hk; cases hk
  obtain ⟨c, hc⟩ := I.ok.has x (.inl hk)
  obtain ⟨w', z⟩ := I.cell x c hc
  refine wpAny_storeName_cell I.ok.kind hk hc z (fun h' hc' hs => ?_)
  obtain ⟨oc, hoc, hocd⟩ := id z
  refine h { s with heap := h' } ⟨I.ok, I.os, I.bare, ⟨fun b o e n hb hx => ?_, fun b o e n hb hx => ?_, I.base.free, fun b o e hx => ?_, I.base.tups, I.base.frzs, I.base.tbls⟩, ⟨m, hn.sameBut hs (Ne.symm (cne x c hc)), fun j y v' e1 e2 e3 => ?_⟩, fun y c' e => ?_, I.free, I.freeC, fun p hp => ?_, tracked ⟨oc, hoc, I.freeC x c hc⟩ hs, by simpa using I.len⟩ ⟨c, hs, .inr hc⟩
  ·exact (hs.2 b (Nat.ne_of_lt (Nat.lt_of_lt_of_le (Heap.lt_size e) (I.ok.cab x c hfn hc)))).trans (I.base.keep b o e n hb hx)
  ·obtain ⟨sl, e1⟩ := I.base.slot b o e n hb hx
   exact ⟨sl, (hs.2 b (Nat.ne_of_lt (Nat.lt_of_lt_of_le (Heap.lt_size e) (I.ok.cab x c hfn hc)))).trans e1⟩
  ·obtain ⟨o', e1⟩ := I.base.there b o e hx
   exact ⟨o', (hs.2 b (Nat.ne_of_lt (Nat.lt_of_lt_of_le (Heap.lt_size e) (I.ok.cab x c hfn hc)))).trans e1⟩
  ·by_cases hj : j = i
   ·subst hj
    rw [hi] at e1; cases e1
    rw [List.getElem?_set_self hiσ] at e2
    cases e2
    exact ⟨u, r, .inr ⟨.inl hk, c, hc, hc'⟩⟩
   ·rw [List.getElem?_set_ne (Ne.symm hj)] at e2
    obtain ⟨u', r', q⟩ := hl j y v' e1 e2 e3
    refine ⟨u', r', ?_⟩
    rcases q with q | ⟨k, c', e, z'⟩
    ·exact .inl q
    ·refine .inr ⟨k, c', e, z'.sameBut hs ?_⟩
     rintro rfl
     exact hj (nH hN e1 (I.ok.inj _ _ _ e hc ▸ hi))
  ·by_cases hcc : c' = c
   ·subst hcc; exact ⟨_, hc'⟩
   ·obtain ⟨w2, z2⟩ := I.cell y c' e
    exact ⟨w2, z2.sameBut hs hcc⟩
  ·obtain ⟨e, n, ne, nf, d⟩ := I.pin p hp
   refine ⟨(hs.2 p.1 ?_).trans e, n, ne, nf, d⟩
   intro q
   rw [q, hoc] at e
   have q' : oc = p.2 := Option.some.inj e
   exact d w' (by rw [<- q']; exact hocd)
theorem m7 {M : Model} {A : Around} {E : Value -> Shared -> Prop} {i : Nat} {x : Str} {v : V} {u : Value} {Q : Unit -> Shared -> Prop} (I : Inv X pins σ H s) (hN : X.N.Nodup) (hi : X.N[i]? = some x) (hx : Loc X.env.scope x) (r : RelV v u)
  (h : ∀ s', Inv X pins (σ.set i (some v)) H s' -> Q () s') (hf : X.fn x = true \/ X.env.scope.names.lookup x = some .local := by first | exact .inl rfl | exact .inr rfl | assumption) : wpAny M A (storeName X.env x u) Q E s :=
 p9 I hN hi hx r (fun s' I' _ => h s' I') hf
theorem Inv.call' {s' : Shared} {ch : List Addr} (I : Inv X pins σ H s) (ho : s'.os = s.os) (u : Un (frs X.stack) ch H H' s.heap s'.heap) (hok : HOk X.prog X.w H' s'.heap) (hg : AllBare s'.gens)
  (hch : ∀ b ∈ ch, (b ∈ X.ex \/ X.s₀.heap.objs.size <= b) /\ b ≠ X.env.locals /\ (∀ x c, X.env.cells.lookup x = some c -> c ≠ b) /\ ∀ p ∈ X.pn ++ pins, p.1 ≠ b) : Inv X pins σ H' s' := by
 obtain ⟨h', g', d', t', o'⟩ := s'
 have e : o' = s.os := ho
 subst e
 exact I.call (g' := g') (t' := t') (d' := d') u hok hg hch
end
abbrev XK := Value -> Option Addr -> Hp -> Prop
abbrev St := List (Option V)
abbrev VK := V -> Hp -> Prop
abbrev TE := St -> Hp -> VK -> Prop
abbrev TT := St -> Hp -> (Bool -> Hp -> Prop) -> Prop
abbrev TA := St -> Hp -> (List V -> Hp -> Prop) -> Prop
structure g9 where
 nx : St -> Hp -> Prop
 rt : VK
 bk : St -> Hp -> Prop := fun _ _ => False
 ct : St -> Hp -> Prop := fun _ _ => False
abbrev TS := g9 -> St -> Hp -> Prop
def EP (X : Cx) (pins : List (Addr × Obj)) (σ : St) (Q : VK) (u : Value) (s' : Shared) : Prop := ∃ v H', Inv X pins σ H' s' /\ RelV v u /\ Q v H'
def TP (X : Cx) (pins : List (Addr × Obj)) (σ : St) (Q : Bool -> Hp -> Prop) (b : Bool) (s' : Shared) : Prop := ∃ H', Inv X pins σ H' s' /\ Q b H'
def AP (X : Cx) (pins : List (Addr × Obj)) (σ : St) (Q : List V -> Hp -> Prop) (us : List Value) (s' : Shared) : Prop := ∃ vs H', Inv X pins σ H' s' /\ Vals vs us /\ Q vs H'
def SP (X : Cx) (pins : List (Addr × Obj)) (D : g9) (f : Flow) (s' : Shared) : Prop :=
 match f with
 | .next => ∃ σ' H', Inv X pins σ' H' s' /\ D.nx σ' H'
 | .brk => ∃ σ' H', Inv X pins σ' H' s' /\ D.bk σ' H'
 | .cont => ∃ σ' H', Inv X pins σ' H' s' /\ D.ct σ' H'
 | .ret u => ∃ v σ' H', Inv X pins σ' H' s' /\ RelV v u /\ D.rt v H'
def PE (X : Cx) (e : Expr) (t : TE) : Prop :=
 ∀ (pins : List (Addr × Obj)) (s : Shared) (σ : St) (H : Hp) (Q : VK), Inv X pins σ H s -> t σ H Q -> wpAny (model X.prog X.w) X.A (eval e X.env) (EP X pins σ Q) X.xe s
def PT (X : Cx) (e : Expr) (t : TT) : Prop :=
 ∀ (pins : List (Addr × Obj)) (s : Shared) (σ : St) (H : Hp) (Q : Bool -> Hp -> Prop), Inv X pins σ H s -> t σ H Q -> wpAny (model X.prog X.w) X.A (isTrue e X.env (eval e X.env)) (TP X pins σ Q) X.xe s
def PW (X : Cx) (e : Expr) (t : TT) : Prop :=
 ∀ (whole : Sem Value) (pins : List (Addr × Obj)) (s : Shared) (σ : St) (H : Hp) (Q : Bool -> Hp -> Prop), Inv X pins σ H s -> t σ H Q -> wpAny (model X.prog X.w) X.A (isTrue e X.env whole) (TP X pins σ Q) X.xe s
theorem PW.pt {X : Cx} {e : Expr} {t : TT} (h : PW X e t) : PT X e t := h _
def PA (X : Cx) (es : List Expr) (t : TA) : Prop :=
 ∀ (pos : Pos) (pins : List (Addr × Obj)) (s : Shared) (σ : St) (H : Hp) (Q : List V -> Hp -> Prop), Inv X pins σ H s -> t σ H Q -> wpAny (model X.prog X.w) X.A (spliced (backTo pos (starEach es X.env))) (AP X pins σ Q) X.xe s
def PS (X : Cx) (st : Stmt) (t : TS) : Prop :=
 ∀ (pins : List (Addr × Obj)) (s : Shared) (σ : St) (H : Hp) (D : g9), Inv X pins σ H s -> t D σ H -> wpAny (model X.prog X.w) X.A (exec st X.env) (SP X pins D) X.xe s
def PSs (X : Cx) (st : List Stmt) (t : TS) : Prop :=
 ∀ (pins : List (Addr × Obj)) (s : Shared) (σ : St) (H : Hp) (D : g9), Inv X pins σ H s -> t D σ H -> wpAny (model X.prog X.w) X.A (execs st X.env) (SP X pins D) X.xe s
theorem thn {α : Type} {t : Sem α} {Q Q' : α -> Shared -> Prop} {M : Model} {A : Around} {E : Value -> Shared -> Prop} {s : Shared} (h : wpAny M A t Q E s) (hQ : ∀ a s, Q a s -> Q' a s) : wpAny M A t Q' E s := wpAny_mono h hQ fun _ _ x => x
end L2
namespace L2
open PySem PySem.Spec PyProof.Rows
section
variable {X : Cx}
def tVar (i : Nat) : TE := fun σ H Q => ∃ v, σ[i]? = some (some v) /\ Q v H
def tC (v : V) : TE := fun _ H Q => Q v H
theorem pe_var {i : Nat} {x : Str} {pos : Pos} (hN : X.N[i]? = some x) (hv : Vis X.env.scope x) (hd : (x == ("__debug__" : Str)) = false := by decide) (hcd : (x == ("__classdict__" : Str)) = false := by decide) : PE X (.Name x pos) (tVar i) := by
 intro pins s σ H Q I h
 obtain ⟨v, e, h⟩ := h
 obtain ⟨m, hn, hl⟩ := I.loc
 obtain ⟨u, r, l⟩ := hl i x v hN e hv
 have fin : EP X pins σ Q u s := ⟨v, H, I, r, h⟩
 rcases l with ⟨hk, hm⟩ | ⟨hk, c, hc, hcell⟩
 ·exact wpAny_Name (wpAny_loadName_local I.ok.kind hk hn hm fin) hd
 ·rcases hk with hk | hk
  ·exact wpAny_Name (wpAny_loadName_cell I.ok.kind hk hc hcell fin) hd
  ·exact wpAny_Name (wpAny_loadName_free I.ok.kind hk hc hcell fin hcd) hd
theorem aE {i j pos} : PE X (.Constant (.int i) j pos) (tC (.int i)) := fun _ _ _ H _ I h => wpAny_Constant_int ⟨.int i, H, I.tok _, ⟨_, rfl⟩, h⟩
theorem pe_bl {b j pos} : PE X (.Constant (.bool b) j pos) (tC (.bl b)) := fun _ _ _ H _ I h => Constant_bool ⟨.bl b, H, I, rfl, h⟩
theorem pe_non {j pos} : PE X (.Constant .none j pos) (tC .non) := fun _ _ _ H _ I h => Constant_none ⟨.non, H, I, rfl, h⟩
theorem fO {x j pos} : PE X (.Constant (.str x) j pos) (tC (.str x)) := fun _ _ _ H _ I h => Calls.Constant_str ⟨.str x, H, I.tok _, ⟨_, rfl⟩, h⟩
def Gl (X : Cx) (x : Str) : Prop := X.env.kindOf x = some .globalImplicit
theorem iZ {E : Value -> Shared -> Prop} {pins : List (Addr × Obj)} {s : Shared} {σ : St} {H : Hp} {x : Str} {u : Value} {pos : Pos} {Q : Value -> Shared -> Prop} (I : Inv X pins σ H s) (hg : Gl X x) (hm : X.mg x = some u) (h : Q u s)
  (hd : (x == ("__debug__" : Str)) = false := by decide) : wpAny (model X.prog X.w) X.A (eval (.Name x pos) X.env) Q E s :=
 Calls.Name_function_global I.ok.kind hg (Calls.loadGlobal_global (by rw [I.ok.glob]; exact I.mod.glob.keeps I.bk) hm h) hd
theorem iD {E : Value -> Shared -> Prop} {pins : List (Addr × Obj)} {s : Shared} {σ : St} {H : Hp} {x : Str} {u : Value} {pos : Pos} {Q : Value -> Shared -> Prop} (I : Inv X pins σ H s) (hg : Gl X x) (hm : X.mg x = none) (hv : bootBuiltins x = some u) (h : Q u s)
  (hn : x ≠ "__name__" := by decide) (hd : (x == ("__debug__" : Str)) = false := by decide) : wpAny (model X.prog X.w) X.A (eval (.Name x pos) X.env) Q E s := by
 obtain ⟨mb, h1, h2⟩ := I.mod.blt
 exact Calls.Name_function_global I.ok.kind hg (Calls.loadGlobal_builtin (by rw [I.ok.glob]; exact I.mod.glob.keeps I.bk) hm (by rw [I.ok.blt]; exact h1.keeps I.bk) ((h2 x hn).trans hv) h) hd
theorem pe_glob {x : Str} {v : V} {u : Value} {pos : Pos} (hg : Gl X x) (hm : X.mg x = some u) (r : RelV v u) (hd : (x == ("__debug__" : Str)) = false := by decide) : PE X (.Name x pos) (tC v) :=
 fun _ _ _ H _ I h => iZ I hg hm ⟨v, H, I, r, h⟩ hd
theorem pe_bltn {x : Str} {v : V} {u : Value} {pos : Pos} (hg : Gl X x) (hm : X.mg x = none) (hv : bootBuiltins x = some u) (r : RelV v u) (hn : x ≠ "__name__" := by decide) (hd : (x == ("__debug__" : Str)) = false := by decide) : PE X (.Name x pos) (tC v) :=
 fun _ _ _ H _ I h => iD I hg hm hv ⟨v, H, I, r, h⟩ hn hd
variable {a b : Expr} {ta tb : TE} {pos : Pos}
def tB (t : TE) : TT := fun σ H Q => t σ H fun x H1 => ∃ c, x = .bl c /\ Q c H1
theorem fL {e : Expr} {t : TE} (h : PE X e t) (he : ∀ whole, isTrue e X.env whole = (do let v <- whole; standAt e.pos; holding [v] (truthy v)) := by intro _; rfl) : PT X e (tB t) := by
 intro pins s σ H Q I hw
 refine isTrue_plain (thn (h pins s σ H _ I hw) fun v s1 ⟨x, H1, I1, r1, q1⟩ => ?_) (he _)
 obtain ⟨d, rfl, q⟩ := q1
 cases r1
 exact wpAny_truthy_bool ⟨H1, I1, q⟩
variable {tA tB' : TT} {rest : List Expr}
def tAnd (t u : TT) : TT := fun σ H Q => t σ H fun c H1 => if c = true then u σ H1 Q else Q false H1
def tOr (t u : TT) : TT := fun σ H Q => t σ H fun c H1 => if c = true then Q true H1 else u σ H1 Q
def tNot (t : TT) : TT := fun σ H Q => t σ H fun c H1 => Q (!c) H1
theorem pH (ha : PT X a tA) : PW X (.BoolOp .And [a] pos) tA := by
 intro wh pins s σ H Q I h
 refine isTrue_and (thn (ha pins s σ H Q I h) fun c s1 e => ?_)
 cases c with
 | true => exact isTrue_and_nil e
 | false => exact e
theorem pw_or1 (ha : PT X a tA) : PW X (.BoolOp .Or [a] pos) tA := by
 intro wh pins s σ H Q I h
 refine isTrue_or (thn (ha pins s σ H Q I h) fun c s1 e => ?_)
 cases c with
 | false => exact isTrue_or_nil e
 | true => exact e
theorem pw_and (ha : PT X a tA) (hb : PW X (.BoolOp .And (b :: rest) pos) tB') : PW X (.BoolOp .And (a :: b :: rest) pos) (tAnd tA tB') := by
 intro wh pins s σ H Q I h
 refine isTrue_and (thn (ha pins s σ H _ I h) fun c s1 ⟨H1, I1, q1⟩ => ?_)
 cases c with
 | true => exact hb wh pins s1 σ H1 Q I1 q1
 | false => exact ⟨H1, I1, q1⟩
theorem pw_or (ha : PT X a tA) (hb : PW X (.BoolOp .Or (b :: rest) pos) tB') : PW X (.BoolOp .Or (a :: b :: rest) pos) (tOr tA tB') := by
 intro wh pins s σ H Q I h
 refine isTrue_or (thn (ha pins s σ H _ I h) fun c s1 ⟨H1, I1, q1⟩ => ?_)
 cases c with
 | true => exact ⟨H1, I1, q1⟩
 | false => exact hb wh pins s1 σ H1 Q I1 q1
theorem oF (ha : PT X a tA) : PT X (.UnaryOp .Not a pos) (tNot tA) := by
 intro pins s σ H Q I h
 exact isTrue_not (ha pins s σ H (fun c H1 => Q (!c) H1) I h)
def tAndV (ta tb : TE) : TE := fun σ H Q => ta σ H fun x H1 => ∃ c, x = .bl c /\ if c = true then tb σ H1 Q else Q (.bl false) H1
def tOrV (ta tb : TE) : TE := fun σ H Q => ta σ H fun x H1 => ∃ c, x = .bl c /\ if c = true then Q (.bl true) H1 else tb σ H1 Q
theorem pe_one {op} {t : TE} (h : PE X a t) : PE X (.BoolOp op [a] pos) t := fun pins s σ H Q I hw => BoolOp_one (h pins s σ H Q I hw)
theorem pe_and (ha : PE X a ta) (hb : PE X (.BoolOp .And (b :: rest) pos) tb) : PE X (.BoolOp .And (a :: b :: rest) pos) (tAndV ta tb) := by
 intro pins s σ H Q I h
 refine BoolOp_and (thn (ha pins s σ H _ I h) fun v s1 ⟨x, H1, I1, r1, q1⟩ => ?_)
 obtain ⟨c, rfl, q1⟩ := q1
 cases r1
 refine wpAny_truthy_bool ?_
 cases c with
 | true => exact hb pins s1 σ H1 Q I1 q1
 | false => exact ⟨.bl false, H1, I1, rfl, q1⟩
theorem pe_or (ha : PE X a ta) (hb : PE X (.BoolOp .Or (b :: rest) pos) tb) : PE X (.BoolOp .Or (a :: b :: rest) pos) (tOrV ta tb) := by
 intro pins s σ H Q I h
 refine BoolOp_or (thn (ha pins s σ H _ I h) fun v s1 ⟨x, H1, I1, r1, q1⟩ => ?_)
 obtain ⟨c, rfl, q1⟩ := q1
 cases r1
 refine wpAny_truthy_bool ?_
 cases c with
 | false => exact hb pins s1 σ H1 Q I1 q1
 | true => exact ⟨.bl true, H1, I1, rfl, q1⟩
def tIf (t : TT) (ta tb : TE) : TE := fun σ H Q => t σ H fun c H1 => if c = true then ta σ H1 Q else tb σ H1 Q
theorem pe_ifExp {c : Expr} (hc : PT X c tA) (ha : PE X a ta) (hb : PE X b tb) : PE X (.IfExp c a b pos) (tIf tA ta tb) := by
 intro pins s σ H Q I h
 refine wpAny_IfExp (thn (hc pins s σ H _ I h) fun d s1 ⟨H1, I1, q1⟩ => ?_)
 cases d with
 | true => exact ha pins s1 σ H1 Q I1 q1
 | false => exact hb pins s1 σ H1 Q I1 q1
end
end L2
namespace L2
open PySem PySem.Spec PyProof.Rows
def SqL (K : PySem.W.Frag) (H : Hp) (a : Addr) (xs : List V) : Prop :=
 Rd H a (.lst xs) \/
  ∃ (o : Obj) (its : Array Value) (n : Nat), K.lookup a = some o /\ o.cls = .type "list" /\ o.dict = none /\ o.data = .seq its n /\ its.size <= sizeLine /\ Vals xs its.toList
def SqT (K : PySem.W.Frag) (H : Hp) (a : Addr) (xs : List V) : Prop :=
 Rd H a (.tup xs) \/
  ∃ (o : Obj) (its : Array Value) (n : Nat), K.lookup a = some o /\ o.cls = .type "tuple" /\ o.data = .seq its n /\ its.size <= sizeLine /\ Vals xs its.toList
def absV : Value -> Option V
 | .none => some .non
 | .bool b => some (.bl b)
 | .int i _ => some (.int i)
 | .str x _ => some (.str x)
 | .bytes b _ => some (.byt b)
 | .float b _ => some (.flt b)
 | .ref a => some (.ref a)
 | .type n => some (.ty n)
 | _ => none
theorem RelV.abs {x : V} {u : Value} (r : RelV x u) : absV u = some x := by
 cases x with
 | non => cases r; rfl
 | bl _ => cases r; rfl
 | int _ => obtain ⟨t, rfl⟩ := r; rfl
 | str _ => obtain ⟨t, rfl⟩ := r; rfl
 | byt _ => obtain ⟨t, rfl⟩ := r; rfl
 | flt _ => obtain ⟨t, rfl⟩ := r; rfl
 | ref _ => cases r; rfl
 | ty _ => cases r; rfl
theorem RelV.inj {x y : V} {u : Value} (r : RelV x u) (q : RelV y u) : x = y := Option.some.inj (r.abs.symm.trans q.abs)
theorem Vals.inj : ∀ {xs ys : List V} {us : List Value}, Vals xs us -> Vals ys us -> xs = ys
 | _, _, _, .nil, .nil => rfl
 | _, _, _, .cons r t, .cons r' t' => by rw [r.inj r', Vals.inj t t']
section
variable {X : Cx} {pins : List (Addr × Obj)} {σ : St} {H : Hp} {s : Shared} {a : Addr} {xs ys : List V}
theorem SqL.of {K : PySem.W.Frag} (h : H a = some (.lst xs)) : SqL K H a xs := .inl (.inl h)
theorem SqT.of {K : PySem.W.Frag} (h : H a = some (.tup xs)) : SqT K H a xs := .inl (.inl h)
theorem Inv.list (I : Inv X pins σ H s) (h : SqL X.K H a xs) : ∃ its : List Value, Vals xs its /\ PlainL s.heap a its.toArray /\ xs.length <= sizeLine := by
 rcases h with h | ⟨o, its, n, hk, hc, hd, hs, hz, r⟩
 ·obtain ⟨z, its, n, r, e⟩ := h.ok I.hok
  exact ⟨its, r, ⟨_, n, e, rfl, rfl, rfl⟩, z⟩
 ·refine ⟨its.toList, r, ⟨o, n, I.kIn a o hk, hc, hd, by simpa using hs⟩, ?_⟩
  have e := r.length
  simp only [Array.length_toList] at e
  omega
theorem Inv.tuple (I : Inv X pins σ H s) (h : SqT X.K H a xs) : ∃ its : List Value, Vals xs its /\ IsTup s.heap a its.toArray /\ xs.length <= sizeLine := by
 rcases h with h | ⟨o, its, n, hk, hc, hs, hz, r⟩
 ·obtain ⟨z, its, r, p⟩ := h.ok I.hok
  exact ⟨its, r, p, z⟩
 ·refine ⟨its.toList, r, ⟨o, I.kIn a o hk, hc, n, by simpa using hs⟩, ?_⟩
  have e := r.length
  simp only [Array.length_toList] at e
  omega
theorem Inv.list_inj (I : Inv X pins σ H s) (h : SqL X.K H a xs) (h' : SqL X.K H a ys) : xs = ys := by
 obtain ⟨its, r, ⟨o, n, e, _, _, d⟩, _⟩ := I.list h
 obtain ⟨its', r', ⟨o', n', e', _, _, d'⟩, _⟩ := I.list h'
 rw [e] at e'; cases e'
 rw [d] at d'
 injection d' with d1 _
 have : its = its' := by simpa using congrArg Array.toList d1
 subst this
 exact r.inj r'
theorem Inv.tuple_inj (I : Inv X pins σ H s) (h : SqT X.K H a xs) (h' : SqT X.K H a ys) : xs = ys := by
 obtain ⟨its, r, ⟨o, e, _, n, d⟩, _⟩ := I.tuple h
 obtain ⟨its', r', ⟨o', e', _, n', d'⟩, _⟩ := I.tuple h'
 rw [e] at e'; cases e'
 rw [d] at d'
 injection d' with d1 _
 have : its = its' := by simpa using congrArg Array.toList d1
 subst this
 exact r.inj r'
end
abbrev Cx.wish (X : Cx) (E : Value -> Shared -> Prop) : Cx := { X with xe := E }
abbrev Cx.nox (X : Cx) : Cx := X.wish fun _ _ => False
theorem Cx.Ok.wish {X : Cx} (ok : X.Ok) (E : Value -> Shared -> Prop) : (X.wish E).Ok :=
 ⟨ok.mod, ok.kind, ok.glob, ok.blt, ok.above, ok.inj, ok.has, ok.cab, ok.hd, ok.frames, ok.stk, ok.exf, ok.bs, ok.bsz, ok.noex, ok.exfs, ok.funs, ok.frf⟩
theorem Cx.Ok.unwish {X : Cx} {E : Value -> Shared -> Prop} (ok : (X.wish E).Ok) : X.Ok :=
 ⟨ok.mod, ok.kind, ok.glob, ok.blt, ok.above, ok.inj, ok.has, ok.cab, ok.hd, ok.frames, ok.stk, ok.exf, ok.bs, ok.bsz, ok.noex, ok.exfs, ok.funs, ok.frf⟩
section
variable {X : Cx} {pins : List (Addr × Obj)} {σ : St} {H : Hp} {s : Shared} {E : Value -> Shared -> Prop}
theorem Inv.wish (I : Inv X pins σ H s) (E : Value -> Shared -> Prop) : Inv (X.wish E) pins σ H s := ⟨I.ok.wish E, I.os, I.bare, I.base, I.loc, I.cell, I.free, I.freeC, I.pin, I.hok, I.len⟩
theorem Inv.unwish (I : Inv (X.wish E) pins σ H s) : Inv X pins σ H s := ⟨I.ok.unwish, I.os, I.bare, I.base, I.loc, I.cell, I.free, I.freeC, I.pin, I.hok, I.len⟩
theorem SP.unwish {D : g9} {f : Flow} {s' : Shared} (h : SP (X.wish E) pins D f s') : SP X pins D f s' := by
 cases f with
 | next => obtain ⟨σ', H', I, q⟩ := h; exact ⟨σ', H', I.unwish, q⟩
 | brk => obtain ⟨σ', H', I, q⟩ := h; exact ⟨σ', H', I.unwish, q⟩
 | cont => obtain ⟨σ', H', I, q⟩ := h; exact ⟨σ', H', I.unwish, q⟩
 | ret u => obtain ⟨v, σ', H', I, r, q⟩ := h; exact ⟨v, σ', H', I.unwish, r, q⟩
theorem PSs.nox {st : List Stmt} {t : TS} (h : PSs X.nox st t) : PSs X st t := fun pins s σ H D I hw =>
 wpAny_mono (h pins s σ H D (I.wish _) hw) (fun _ _ q => q.unwish) fun _ _ z => False.elim z
end
section
variable {X : Cx} {st : Stmt} {rest : List Stmt} {t u : TS} {e : Expr} {te : TE} {pos : Pos}
def tNext : TS := fun D σ H => D.nx σ H
def tSeq (t u : TS) : TS := fun D σ H => t { D with nx := u D } σ H
theorem bJ : PSs X [] tNext := fun _ _ σ H _ I h => wpAny_execs_nil ⟨σ, H, I, h⟩
theorem aD (h1 : PS X st t) (h2 : PSs X rest u) : PSs X (st :: rest) (tSeq t u) := by
 intro pins s σ H D I h
 refine wpAny_execs_cons (thn (h1 pins s σ H { D with nx := u D } I h) fun f s1 q => ?_)
 cases f with
 | next =>
  obtain ⟨σ', H', I', q⟩ := q
  exact h2 pins s1 σ' H' D I' q
 | ret v => exact q
 | brk => exact q
 | cont => exact q
theorem aH (h1 : PS X st t) : PSs X [st] t := by
 intro pins s σ H D I h
 refine wpAny_execs_cons (thn (h1 pins s σ H D I h) fun f s1 q => ?_)
 cases f with
 | next => exact wpAny_execs_nil q
 | ret v => exact q
 | brk => exact q
 | cont => exact q
theorem Inv.quiet {pins : List (Addr × Obj)} {σ : St} {H : Hp} {s : Shared} (I : Inv X pins σ H s) : interactive X.env = false := by simp [interactive, I.ok.kind]
def tDrop (te : TE) : TS := fun D σ H => te σ H fun _ H1 => D.nx σ H1
theorem cE (he : PE X e te) (hs : swapsWith e none pos.line X.env = pure false := by rfl) : PS X (.Expr e pos) (tDrop te) := by
 intro pins s σ H D I h
 exact wpAny_Expr_any (thn (he pins s σ H _ I h) fun v s1 ⟨x, H1, I1, r1, q1⟩ => ⟨σ, H1, I1, q1⟩) I.quiet hs
def tRet (te : TE) : TS := fun D σ H => te σ H D.rt
theorem aU (he : PE X e te) : PS X (.Return (some e) pos) (tRet te) := by
 intro pins s σ H D I h
 exact wpAny_Return_some (thn (he pins s σ H _ I h) fun v s1 ⟨x, H1, I1, r1, q1⟩ => ⟨x, σ, H1, I1, r1, q1⟩)
def tIfS (c : TT) (t u : TS) : TS := fun D σ H => c σ H fun b H1 => if b = true then t D σ H1 else u D σ H1
theorem b8 {c : Expr} {a b : List Stmt} {tc : TT} (hc : PT X c tc) (ha : PSs X a t) (hb : PSs X b u) : PS X (.If c a b pos) (tIfS tc t u) := by
 intro pins s σ H D I h
 refine wpAny_If (thn (hc pins s σ H _ I h) fun d s1 ⟨H1, I1, q1⟩ => ?_)
 cases d with
 | true => exact ha pins s1 σ H1 D I1 q1
 | false => exact hb pins s1 σ H1 D I1 q1
end
abbrev TG := V -> St -> Hp -> (St -> Hp -> Prop) -> Prop
abbrev TGs := List V -> St -> Hp -> (St -> Hp -> Prop) -> Prop
def PG (X : Cx) (target : Expr) (t : TG) : Prop :=
 ∀ (pins : List (Addr × Obj)) (s : Shared) (σ : St) (H : Hp) (v : V) (u : Value) (Q : St -> Hp -> Prop), Inv X pins σ H s -> RelV v u -> t v σ H Q ->
  wpAny (model X.prog X.w) X.A (assign target X.env u) (fun _ s' => ∃ σ' H', Inv X pins σ' H' s' /\ Q σ' H') X.xe s
def PGs (X : Cx) (ts : List Expr) (t : TGs) : Prop :=
 ∀ (pins : List (Addr × Obj)) (s : Shared) (σ : St) (H : Hp) (vs : List V) (us : List Value) (Q : St -> Hp -> Prop), Inv X pins σ H s -> Vals vs us -> t vs σ H Q ->
  wpAny (model X.prog X.w) X.A (assignInOrder ((assignEach ts X.env).map (·.2)) us) (fun _ s' => ∃ σ' H', Inv X pins σ' H' s' /\ Q σ' H') X.xe s
abbrev TSet := V -> V -> V -> Hp -> (Hp -> Prop) -> Prop
def PSet (X : Cx) (t : TSet) : Prop :=
 ∀ (pins : List (Addr × Obj)) (s : Shared) (σ : St) (H : Hp) (o i v : V) (ov iv u : Value) (Q : Hp -> Prop), Inv X pins σ H s -> RelV o ov -> RelV i iv -> RelV v u -> t o i v H Q ->
  wpAny (model X.prog X.w) X.A (setItem ov iv u) (fun _ s' => ∃ H', Inv X pins σ H' s' /\ Q H') X.xe s
section
variable {X : Cx} {pos : Pos}
def gName (i : Nat) : TG := fun v σ H Q => Q (σ.set i (some v)) H
theorem aM {i : Nat} {x : Str} (hN : X.N.Nodup) (hi : X.N[i]? = some x) (hx : Loc X.env.scope x) (hf : X.fn x = true \/ X.env.scope.names.lookup x = some .local := by first | exact .inl rfl | exact .inr rfl | assumption) : PG X (.Name x pos) (gName i) := by
 intro pins s σ H v u Q I r h
 exact wpAny_assign_Name (m7 I hN hi hx r (fun s' I' => ⟨_, H, I', h⟩) hf)
def gNil : TGs := fun vs σ H Q => vs = [] /\ Q σ H
def gCons (t : TG) (u : TGs) : TGs := fun vs σ H Q => ∃ v r, vs = v :: r /\ t v σ H fun σ' H' => u r σ' H' Q
theorem cF : PGs X [] gNil := by
 intro pins s σ H vs us Q I r h
 obtain ⟨e, h⟩ := h
 subst e
 cases r
 exact assignInOrder_nil ⟨σ, H, I, h⟩
theorem aW {e : Expr} {es : List Expr} {t : TG} {u : TGs} (h1 : PG X e t) (h2 : PGs X es u)
  (hs : (assignEach (e :: es) X.env).map (·.2) = assign e X.env :: (assignEach es X.env).map (·.2) := by rfl) : PGs X (e :: es) (gCons t u) := by
 intro pins s σ H vs us Q I r h
 obtain ⟨v, vr, e1, h⟩ := h
 subst e1
 cases r with
 | cons r rr =>
  rw [hs]
  refine assignInOrder_cons (thn (h1 pins s σ H _ _ _ I r h) fun _ s1 ⟨σ1, H1, I1, q1⟩ => ?_)
  exact h2 pins s1 σ1 H1 _ _ Q I1 rr q1
def gTup (K : PySem.W.Frag) (n : Nat) (t : TGs) : TG := fun v σ H Q => ∃ a xs, v = .ref a /\ SqT K H a xs /\ xs.length = n /\ t xs σ H Q
theorem pg_tup {es : List Expr} {k : Nat} {t : TGs} {n : Nat} (hc : X.calm = true) (h : PGs X es t)
  (hn : (assignEach es X.env).length = n := by rfl) (hst : (assignEach es X.env).findIdx? (·.1) = none := by rfl) : PG X (.Tuple es k pos) (gTup X.K n t) := by
 intro pins s σ H v u Q I r hw
 obtain ⟨a, xs, e1, hq, hl, hw⟩ := hw
 subst e1
 cases r
 obtain ⟨its, rv, ht, hz⟩ := I.tuple hq
 refine assign_Tuple_tuple (I.ok.hd hc) ht (by simp [hn, <- hl, rv.length]) hst fun h' hx => ?_
 have I1 : Inv X pins σ H { s with heap := h' } := I.kept (t' := s.toks) fun b o e => hx b o (Nat.ne_of_lt (Heap.lt_size e)) e
 exact h pins _ σ H xs _ Q I1 (by simpa using rv) hw
def gSub (to ti : TE) (t : TSet) : TG := fun v σ H Q => to σ H fun o H1 => ti σ H1 fun i H2 => t o i v H2 fun H3 => Q σ H3
theorem pg_sub {o i : Expr} {to ti : TE} {t : TSet} (ho : PE X o to) (hi : PE X i ti) (hs : PSet X t)
  (ha : ∀ v, assign (.Subscript o i pos) X.env v = (do
   let ov <- holding [v] (eval o X.env)
   let iv <- holding [v, ov] (eval i X.env)
   standAt pos
   holding [v, ov, iv] (setItem ov iv v)
   release [v, ov, iv] []) := by intro _; rfl) : PG X (.Subscript o i pos) (gSub to ti t) := by
 intro pins s σ H v u Q I r h
 rw [ha]
 refine wpAny_bind (wpAny_holding (thn (ho pins s σ H _ I h) fun ov s1 ⟨x, H1, I1, r1, q1⟩ => ?_))
 refine wpAny_bind (wpAny_holding (thn (hi pins s1 σ H1 _ I1 q1) fun iv s2 ⟨y, H2, I2, r2, q2⟩ => ?_))
 refine wpAny_bind (wpAny_standAt (wpAny_bind (wpAny_holding (thn (hs pins s2 σ H2 x y v ov iv u _ I2 r1 r2 r q2) fun _ s3 ⟨H3, I3, q3⟩ => ?_))))
 exact wpAny_release ⟨σ, H3, I3, q3⟩
def tAsg (te : TE) (g : TG) : TS := fun D σ H => te σ H fun x H1 => g x σ H1 D.nx
theorem ps_asg {tg e : Expr} {te : TE} {g : TG} (he : PE X e te) (hg : PG X tg g) (hs : swapsWithSole [tg] e pos.line X.env = pure false := by rfl) (hw : swappedStores [tg] e X.env = pure none := by rfl)
  (h1 : (assignEach [tg] X.env).map (·.2) = [assign tg X.env] := by rfl) : PS X (.Assign [tg] e pos) (tAsg te g) := by
 intro pins s σ H D I h
 refine wpAny_Assign_stores (thn (he pins s σ H _ I h) fun v s1 ⟨x, H1, I1, r1, q1⟩ => ?_) hs hw
 rw [h1]
 exact thn (hg pins s1 σ H1 x v _ I1 r1 q1) fun _ s2 q => q
theorem aP {i : Nat} {x : Str} {e : Expr} {te : TE} {pos' : Pos} (hN : X.N.Nodup) (hi : X.N[i]? = some x) (hx : Loc X.env.scope x) (he : PE X e te) (hs : swapsWith e (some (.Name x pos')) pos.line X.env = pure false := by rfl) (hf : X.fn x = true \/ X.env.scope.names.lookup x = some .local := by first | exact .inl rfl | exact .inr rfl | assumption) :
  PS X (.Assign [.Name x pos'] e pos) (tAsg te (gName i)) := by
 intro pins s σ H D I h
 refine wpAny_Assign_Name (thn (he pins s σ H _ I h) fun v s1 ⟨y, H1, I1, r1, q1⟩ => ?_) hs
 exact m7 I1 hN hi hx r1 (fun s2 I2 => ⟨_, H1, I2, q1⟩) hf
end
section
variable {X : Cx} {pos : Pos}
def tWhile (c : TT) (tb : TS) : TS := fun D σ H => ∃ W : Nat -> St -> Hp -> Prop, (∃ m, W m σ H) /\ ∀ m σ H, W m σ H ->
 c σ H fun b H1 => if b = true then ∃ N : St -> Hp -> Prop, (∀ σ' H', N σ' H' -> ∃ m', m' < m /\ W m' σ' H') /\ tb { D with nx := N, ct := N, bk := D.nx } σ H1 else D.nx σ H1
theorem nE {c : Expr} {body : List Stmt} {tc : TT} {tb : TS} (hp : PassesOwn (model X.prog X.w) X.A X.env X.xe) (hc : PT X c tc) (hb : PSs X body tb) : PS X (.While c body [] pos) (tWhile tc tb) := by
 intro pins s σ H D I h
 obtain ⟨W, ⟨m0, w0⟩, turn⟩ := h
 refine wpAny_While (codeAny_whileLoop (fun n s' => ∃ σ' H', Inv X pins σ' H' s' /\ W n σ' H') ?_ m0 ⟨σ, H, I, w0⟩)
 rintro n s1 ⟨σ1, H1, I1, w1⟩
 refine wpAny_passesOwn hp (thn (hc pins s1 σ1 H1 _ I1 (turn n σ1 H1 w1)) fun b s2 ⟨H2, I2, q2⟩ => ?_)
 cases b with
 | true =>
  obtain ⟨N, hN, q2⟩ := q2
  rw [if_pos rfl]
  refine wpAny_passesOwn hp (thn (hb pins s2 σ1 H2 _ I2 q2) fun f s3 q3 => ?_)
  cases f with
  | next =>
   obtain ⟨σ3, H3, I3, n3⟩ := q3
   obtain ⟨m', hm, w3⟩ := hN σ3 H3 n3
   exact ⟨m', hm, σ3, H3, I3, w3⟩
  | cont =>
   obtain ⟨σ3, H3, I3, n3⟩ := q3
   obtain ⟨m', hm, w3⟩ := hN σ3 H3 n3
   exact ⟨m', hm, σ3, H3, I3, w3⟩
  | brk => exact q3
  | ret v => exact q3
 | false =>
  rw [if_neg Bool.false_ne_true]
  exact wpAny_execs_nil ⟨σ1, H2, I2, q2⟩
end
structure It where
 go : Nat -> Hp -> Prop
 yld : Nat -> Hp -> V -> Hp -> Prop
 stop : Nat -> Hp -> Prop
def fJ (X : Cx) (pins : List (Addr × Obj)) (H : Hp) (b : Addr) : Prop :=
 H b = none /\ b ≠ X.env.locals /\ b ∉ X.fs /\ (b ∈ X.ex \/ X.s₀.heap.objs.size <= b) /\ (∀ x c, X.env.cells.lookup x = some c -> c ≠ b) /\ ∀ p ∈ X.pn ++ pins, p.1 ≠ b
theorem Inv.fpOk {X : Cx} {pins : List (Addr × Obj)} {σ : St} {H H' : Hp} {s : Shared} {b : Addr} (I : Inv X pins σ H s) (hb : s.heap.objs.size <= b) (hn : H' b = none) : fJ X pins H' b := by
 refine ⟨hn, Nat.ne_of_gt (Nat.lt_of_lt_of_le I.lt hb), I.nofs hb, .inr (Nat.le_trans I.sz hb), fun x c e z => ?_, fun p hp z => ?_⟩
 ·obtain ⟨v, q⟩ := I.cell x c e
  exact absurd (Nat.lt_of_lt_of_le q.lt (by rw [z]; exact hb)) (Nat.lt_irrefl _)
 ·exact absurd (Nat.lt_of_lt_of_le (Heap.lt_size (I.pin p hp).1) (by rw [z]; exact hb)) (Nat.lt_irrefl _)
structure Turn (P : Program) (w : World) (K : PySem.W.Frag) (tg : Expr) (J : It) (fp : List Addr) (it : Addr) (tn : Nat -> Heap -> Prop) : Prop where
 mem : it ∈ fp
 obj : ∀ i h, tn i h -> ∀ b ∈ fp, ∃ o, h.get? b = some o /\ ∀ v, o.data ≠ .cell v
 keep : ∀ i h h', tn i h -> (∀ b ∈ fp, ∀ o, h.get? b = some o -> h'.get? b = some o) -> tn i h'
 item : ∀ (X : Cx), X.prog = P -> X.w = w -> X.K = K -> X.calm = true -> ∀ (i : Nat) (pins : List (Addr × Obj)) (s : Shared) (σ : St) (H : Hp) (E : Value -> Shared -> Prop), Inv X pins σ H s -> (∀ b ∈ fp, fJ X pins H b) -> tn i s.heap -> J.go i H ->
  wpAny (model P w) X.A (pyNext (.ref it)) (fun r s1 => ∃ u, r = some u /\
   wpAny (model P w) X.A (letOwnedTupleGo tg (.ref it) u) (fun _ s2 => ∃ x H', Inv X pins σ H' s2 /\ RelV x u /\ J.yld i H x H' /\ tn (i + 1) s2.heap /\ ∀ b ∈ fp, H' b = none) E s1) E s
 done : ∀ (X : Cx), X.prog = P -> X.w = w -> X.K = K -> X.calm = true -> ∀ (i : Nat) (pins : List (Addr × Obj)) (s : Shared) (σ : St) (H : Hp) (E : Value -> Shared -> Prop), Inv X pins σ H s -> (∀ b ∈ fp, fJ X pins H b) -> tn i s.heap -> J.stop i H ->
  wpAny (model P w) X.A (pyNext (.ref it)) (fun r s1 => r = none /\ Inv X pins σ H s1) E s
 self : ∀ (A : Around) (i : Nat) (s : Shared) (Q : Value -> Shared -> Prop) (E : Value -> Shared -> Prop), tn i s.heap -> Q (.ref it) s -> wpAny (model P w) A (pyIter (.ref it)) Q E s
abbrev TI := St -> Hp -> (It -> Hp -> Prop) -> Prop
def PIE (X : Cx) (pins : List (Addr × Obj)) (σ : St) (tg : Expr) (R : It -> Hp -> Prop) (itv : Value) (s2 : Shared) : Prop :=
 ∃ (it : Addr) (fp : List Addr) (tn : Nat -> Heap -> Prop) (J : It) (H' : Hp), itv = .ref it /\ Inv X pins σ H' s2 /\ Turn X.prog X.w X.K tg J fp it tn /\ tn 0 s2.heap /\ (∀ b ∈ fp, fJ X pins H' b) /\ R J H'
def PI (X : Cx) (tg iter : Expr) (wi : TI) : Prop :=
 ∀ (pins : List (Addr × Obj)) (s : Shared) (σ : St) (H : Hp) (R : It -> Hp -> Prop), Inv X pins σ H s -> wi σ H R ->
  wpAny (model X.prog X.w) X.A (eval iter X.env) (fun v s1 => wpAny (model X.prog X.w) X.A (pyIter v) (PIE X pins σ tg R) X.xe s1) X.xe s
theorem go_of {M : Model} {A : Around} {E : Value -> Shared -> Prop} {s : Shared} {tg : Expr} {it : Addr} {u : Value} {o : Obj} {n : String} {vs : Array Value} {Q : Unit -> Shared -> Prop} (ho : s.heap.get? it = some o) (hc : o.cls = .type n) (hd : o.data = .fields vs)
    (hn : ["enumerate", "zip", "dict_itemiterator", "dict_reverseitemiterator", "odict_iterator", "itertools.zip_longest", "itertools.pairwise"].contains n = false) (hQ : Q () s) : wpAny M A (letOwnedTupleGo tg (.ref it) u) Q E s := by
  unfold letOwnedTupleGo
  cases tg <;> first
    | exact wpAny_pure hQ
    | (cases u <;> first
        | exact wpAny_pure hQ
        | (refine wpAny_bind (wpAny_load ho ?_)
           rw [hc, hd]
           show wpAny M A (if (["enumerate", "zip", "dict_itemiterator", "dict_reverseitemiterator", "odict_iterator", "itertools.zip_longest", "itertools.pairwise"].contains n && vs[0]? == some (rawInt _)) = true then _ else _) Q E s
           rw [if_neg (by intro h; rw [hn, Bool.false_and] at h; cases h)]
           exact wpAny_pure hQ))
def Itl (K : PySem.W.Frag) (a : Addr) : It :=
 ⟨fun i H => ∃ xs x, SqL K H a xs /\ xs[i]? = some x, fun i H x H' => H' = H /\ ∀ xs, SqL K H a xs -> xs[i]? = some x, fun i H => ∃ xs, SqL K H a xs /\ xs.length <= i⟩
def Itt (K : PySem.W.Frag) (a : Addr) : It :=
 ⟨fun i H => ∃ xs x, SqT K H a xs /\ xs[i]? = some x, fun i H x H' => H' = H /\ ∀ xs, SqT K H a xs -> xs[i]? = some x, fun i H => ∃ xs, SqT K H a xs /\ xs.length <= i⟩
def Itr (lo : Int) (n : Nat) : It := ⟨fun i _ => i < n, fun i H x H' => H' = H /\ x = .int (lo + i), fun i _ => n <= i⟩
theorem turn_list {P : Program} {w : World} {K : PySem.W.Frag} {tg : Expr} (a it : Addr) : Turn P w K tg (Itl K a) [it] it (fun i h => h.IsListIter it a i) where
 mem := by simp
 obj := fun i h st b hb => by
  have e : b = it := by simpa using hb
  subst e
  obtain ⟨o, e, c, d⟩ := st
  exact ⟨o, e, fun v z => by rw [d] at z; cases z⟩
 keep := fun i h h' st k => st.at fun o e => k it (by simp) o e
 item := by
  intro X hP hw hK hc i pins s σ H E I hf st hg
  subst hP hw hK
  obtain ⟨xs, x, hq, hx⟩ := hg
  obtain ⟨its, rv, p, hz⟩ := I.list hq
  obtain ⟨u, hu, ru⟩ := rv.get hx
  obtain ⟨f0, f1, f2, f3, f4, f5⟩ := hf it (by simp)
  refine wpAny_pyNext_list_item st p.isList (x := u) (by simpa using hu) fun h' st' sb => ?_
  have I1 : Inv X pins σ H { s with heap := h' } := I.turned (t' := s.toks) (fun b o hb e => (sb.2 b hb).trans e) f0 f1 f3 f4 f5
  obtain ⟨o, e, c, d⟩ := id st'
  exact ⟨u, rfl, go_of (s := { s with heap := h' }) e c d (by decide) ⟨x, H, I1, ru, ⟨rfl, fun ys hy => by rw [I.list_inj hy hq]; exact hx⟩, st', fun b hb => (hf b hb).1⟩⟩
 done := by
  intro X hP hw hK hc i pins s σ H E I hf st hg
  subst hP hw hK
  obtain ⟨xs, hq, hx⟩ := hg
  obtain ⟨its, rv, p, hz⟩ := I.list hq
  obtain ⟨f0, f1, f2, f3, f4, f5⟩ := hf it (by simp)
  have hl := rv.length
  exact wpAny_pyNext_list_end (I.ok.hd hc) st p.isList (by simp; omega) fun h' eb => ⟨rfl, I.turned (t' := s.toks) (fun b o hb e => eb b o hb e) f0 f1 f3 f4 f5⟩
 self := fun _ _ _ _ _ st h => wpAny_pyIter_listiter st h
theorem turn_tuple {P : Program} {w : World} {K : PySem.W.Frag} {tg : Expr} (a it : Addr) : Turn P w K tg (Itt K a) [it] it (fun i h => h.IsTupleIter it a i) where
 mem := by simp
 obj := fun i h st b hb => by
  have e : b = it := by simpa using hb
  subst e
  obtain ⟨o, e, c, d⟩ := st
  exact ⟨o, e, fun v z => by rw [d] at z; cases z⟩
 keep := fun i h h' st k => st.at fun o e => k it (by simp) o e
 item := by
  intro X hP hw hK hc i pins s σ H E I hf st hg
  subst hP hw hK
  obtain ⟨xs, x, hq, hx⟩ := hg
  obtain ⟨its, rv, p, hz⟩ := I.tuple hq
  obtain ⟨u, hu, ru⟩ := rv.get hx
  obtain ⟨f0, f1, f2, f3, f4, f5⟩ := hf it (by simp)
  refine wpAny_pyNext_tuple_item st (show s.heap.IsTuple a its.toArray from p) (x := u) (by simpa using hu) fun h' st' sb => ?_
  have I1 : Inv X pins σ H { s with heap := h' } := I.turned (t' := s.toks) (fun b o hb e => (sb.2 b hb).trans e) f0 f1 f3 f4 f5
  obtain ⟨o, e, c, d⟩ := id st'
  exact ⟨u, rfl, go_of (s := { s with heap := h' }) e c d (by decide) ⟨x, H, I1, ru, ⟨rfl, fun ys hy => by rw [I.tuple_inj hy hq]; exact hx⟩, st', fun b hb => (hf b hb).1⟩⟩
 done := by
  intro X hP hw hK hc i pins s σ H E I hf st hg
  subst hP hw hK
  obtain ⟨xs, hq, hx⟩ := hg
  obtain ⟨its, rv, p, hz⟩ := I.tuple hq
  obtain ⟨f0, f1, f2, f3, f4, f5⟩ := hf it (by simp)
  have hl := rv.length
  exact wpAny_pyNext_tuple_end (I.ok.hd hc) st (show s.heap.IsTuple a its.toArray from p) (by simp; omega) fun h' eb => ⟨rfl, I.turned (t' := s.toks) (fun b o hb e => eb b o hb e) f0 f1 f3 f4 f5⟩
 self := fun _ _ _ _ _ st h => wpAny_pyIter_tupleiter st h
theorem turn_range {P : Program} {w : World} {K : PySem.W.Frag} {tg : Expr} (it : Addr) (lo : Int) (n : Nat) : Turn P w K tg (Itr lo n) [it] it (fun i h => IsRangeIter h it (lo + (i : Nat) * 1) ((n : Int) - (i : Nat)) 1) where
 mem := by simp
 obj := fun i h st b hb => by
  have e : b = it := by simpa using hb
  subst e
  exact ⟨_, st, fun v z => by
   have z' : Data.fields _ = Data.cell v := z
   cases z'⟩
 keep := fun i h h' st k => k it (by simp) _ st
 item := by
  intro X hP hw hK hc i pins s σ H E I hf st hg
  subst hP hw hK
  obtain ⟨f0, f1, f2, f3, f4, f5⟩ := hf it (by simp)
  have W := Walks.range (prog := X.prog) (w := X.w) (I.ok.hd hc) it lo 1 n
  refine W.item i s _ _ hg st fun v h' tk hv st' kk => ?_
  obtain ⟨t, rfl⟩ := hv
  have I1 : Inv X pins σ H { s with heap := h', toks := tk } := I.turned (fun b o hb e => kk b o (by simpa using hb) e) f0 f1 f3 f4 f5
  refine ⟨_, rfl, go_of (s := { s with heap := h', toks := tk }) (n := "range_iterator") st' rfl rfl (by decide) ⟨.int (lo + i), H, I1, ⟨t, ?_⟩, ⟨rfl, rfl⟩, st', fun b hb => (hf b hb).1⟩⟩
  rw [Int.mul_one]
 done := by
  intro X hP hw hK hc i pins s σ H E I hf st hg
  subst hP hw hK
  obtain ⟨f0, f1, f2, f3, f4, f5⟩ := hf it (by simp)
  exact wpAny_pyNext_range_end (I.ok.hd hc) st (by have : n <= i := hg; omega) fun h' eb => ⟨rfl, I.turned (t' := s.toks) (fun b o hb e => eb b o hb e) f0 f1 f3 f4 f5⟩
 self := fun _ _ _ _ _ st h => wpAny_pyIter_rangeiter st h
end L2
namespace L2
open PySem PySem.Spec PyProof.Rows
section
variable {X : Cx} {tg : Expr}
def iList (K : PySem.W.Frag) (tl : TE) : TI := fun σ H R => tl σ H fun x H1 => ∃ a, x = .ref a /\ (∃ xs, SqL K H1 a xs) /\ R (Itl K a) H1
def iTup (K : PySem.W.Frag) (tl : TE) : TI := fun σ H R => tl σ H fun x H1 => ∃ a, x = .ref a /\ (∃ xs, SqT K H1 a xs) /\ R (Itt K a) H1
theorem bD {l : Expr} {tl : TE} (hl : PE X l tl) : PI X tg l (iList X.K tl) := by
 intro pins s σ H R I h
 refine thn (hl pins s σ H _ I h) fun v s1 ⟨x, H1, I1, r1, q1⟩ => ?_
 obtain ⟨a, e, ⟨xs, hq⟩, q⟩ := q1
 subst e
 cases r1
 obtain ⟨its, rv, p, hz⟩ := I1.list hq
 refine wpAny_pyIter_list p.isList ?_
 refine ⟨s1.heap.objs.size, [s1.heap.objs.size], _, _, H1, rfl, I1.kept (t' := s1.toks) fun b o e => Heap.get?_push_of_some _ e, turn_list a _, ⟨_, Heap.get?_push_size _ rfl, rfl, rfl⟩, fun b hb => ?_, q⟩
 have e : b = s1.heap.objs.size := by simpa using hb
 subst e
 exact I1.fpOk (Nat.le_refl _) (I1.hok.fresh (Nat.le_refl _))
theorem lN {l : Expr} {tl : TE} (hl : PE X l tl) : PI X tg l (iTup X.K tl) := by
 intro pins s σ H R I h
 refine thn (hl pins s σ H _ I h) fun v s1 ⟨x, H1, I1, r1, q1⟩ => ?_
 obtain ⟨a, e, ⟨xs, hq⟩, q⟩ := q1
 subst e
 cases r1
 obtain ⟨its, rv, p, hz⟩ := I1.tuple hq
 refine wpAny_pyIter_tuple (show s1.heap.IsTuple a its.toArray from p) ?_
 refine ⟨s1.heap.objs.size, [s1.heap.objs.size], _, _, H1, rfl, I1.kept (t' := s1.toks) fun b o e => Heap.get?_push_of_some _ e, turn_tuple a _, ⟨_, Heap.get?_push_size _ rfl, rfl, rfl⟩, fun b hb => ?_, q⟩
 have e : b = s1.heap.objs.size := by simpa using hb
 subst e
 exact I1.fpOk (Nat.le_refl _) (I1.hok.fresh (Nat.le_refl _))
theorem range_it {pins : List (Addr × Obj)} {σ : St} {H : Hp} {s : Shared} {R : It -> Hp -> Prop} {E : Value -> Shared -> Prop} {lo hi : Int} {t u v : Tok} {tk : Nat} (I : Inv X pins σ H s) (h1 : -(2 ^ 62) <= lo) (h2 : lo < 2 ^ 62) (h3 : -(2 ^ 62) <= hi) (h4 : hi < 2 ^ 62)
  (q : R (Itr lo (hi - lo).toNat) H) : wpAny (model X.prog X.w) X.A (pyIter (.ref s.heap.objs.size)) (PIE X pins σ tg R) E { s with heap := s.heap.push { cls := .type "range", data := .fields #[.int lo t, .int hi u, .int 1 v] }, toks := tk } := by
 refine wpAny_pyIter_range (IsRange.new ..) (small_one h1 h2 h3 h4) ?_
 have I1 : Inv X pins σ H { s with heap := s.heap.push { cls := .type "range", data := .fields #[.int lo t, .int hi u, .int 1 v] }, toks := tk } := I.kept fun b o e => Heap.get?_push_of_some _ e
 refine ⟨(s.heap.push { cls := .type "range", data := .fields #[.int lo t, .int hi u, .int 1 v] }).objs.size, [(s.heap.push { cls := .type "range", data := .fields #[.int lo t, .int hi u, .int 1 v] }).objs.size], _, _, H, rfl,
  I1.kept (t' := tk) fun b o e => Heap.get?_push_of_some _ e, turn_range _ lo (hi - lo).toNat, ?_, fun b hb => ?_, q⟩
 ·have e1 : lo + ((0 : Nat) : Int) * 1 = lo := by simp
  have e2 : (((hi - lo).toNat : Nat) : Int) - ((0 : Nat) : Int) = Builtin.Range.rangeSize lo hi 1 := by rw [rangeSize_one]; split <;> omega
  show IsRangeIter _ _ (lo + ((0 : Nat) : Int) * 1) ((((hi - lo).toNat : Nat) : Int) - ((0 : Nat) : Int)) 1
  rw [e1, e2]
  exact Heap.get?_push_size _ rfl
 ·have e : b = (s.heap.push { cls := .type "range", data := .fields #[.int lo t, .int hi u, .int 1 v] }).objs.size := by simpa using hb
  subst e
  exact I1.fpOk (Nat.le_refl _) (I1.hok.fresh (Nat.le_refl _))
def iRng1 (ta : TA) : TI := fun σ H R => ta σ H fun vs H1 => ∃ j : Int, vs = [.int j] /\ -(2 ^ 62) <= j /\ j < 2 ^ 62 /\ R (Itr 0 j.toNat) H1
def iRng2 (ta : TA) : TI := fun σ H R => ta σ H fun vs H1 => ∃ i j : Int, vs = [.int i, .int j] /\ (-(2 ^ 62) <= i /\ i < 2 ^ 62 /\ -(2 ^ 62) <= j /\ j < 2 ^ 62) /\ R (Itr i (j - i).toNat) H1
theorem jQ {a : Expr} {ta : TA} {p pos : Pos} (hg : Gl X "range") (hm : X.mg "range" = none) (ha : PA X [a] ta) (hs : starEach [a] X.env = [(false, eval a X.env)] := by rfl) : PI X tg (.Call (.Name "range" p) [a] [] pos) (iRng1 ta) := by
 intro pins s σ H R I h
 refine Call_ (iD I hg hm boot_range (PyProof.Rows.callWith_type1 (thn (ha pos pins s σ H _ I h) fun us s1 ⟨vs, H1, I1, r1, q1⟩ => ?_) hs rfl))
 obtain ⟨j, e, q1, q2, q⟩ := q1
 subst e
 cases r1 with
 | cons r rr =>
  cases rr
  obtain ⟨t, rfl⟩ := r
  exact call_range_1 (range_it I1 (by omega) (by omega) q1 q2 (by simpa using q))
theorem pi_range2 {a b : Expr} {ta : TA} {p pos : Pos} (hg : Gl X "range") (hm : X.mg "range" = none) (ha : PA X [a, b] ta) (hs : starEach [a, b] X.env = [(false, eval a X.env), (false, eval b X.env)] := by rfl) (hs2 : starEach [b] X.env = [(false, eval b X.env)] := by rfl) :
  PI X tg (.Call (.Name "range" p) [a, b] [] pos) (iRng2 ta) := by
 intro pins s σ H R I h
 refine Call_ (iD I hg hm boot_range (PyProof.Rows.callWith_type1 (thn (ha pos pins s σ H _ I h) fun us s1 ⟨vs, H1, I1, r1, q1⟩ => ?_) (by rw [hs, hs2]) (by rw [hs2]; rfl)))
 obtain ⟨i, j, e, ⟨q1, q2, q3, q4⟩, q⟩ := q1
 subst e
 cases r1 with
 | cons r rr =>
  cases rr with
  | cons r' rr =>
   cases rr
   obtain ⟨t, rfl⟩ := r
   obtain ⟨t', rfl⟩ := r'
   exact call_range_2 (range_it I1 q1 q2 q3 q4 q)
def tFor (wi : TI) (g : TG) (tb : TS) : TS := fun D σ H => wi σ H fun J H1 => ∃ W : Nat -> Nat -> St -> Hp -> Prop, (∃ m, W 0 m σ H1) /\ ∀ i m σ H, W i m σ H ->
 (J.stop i H /\ D.nx σ H) \/ (J.go i H /\ ∃ N : St -> Hp -> Prop, (∀ σ' H', N σ' H' -> ∃ m', m' < m /\ W (i + 1) m' σ' H') /\ ∀ x H', J.yld i H x H' -> g x σ H' fun σ2 H2 => tb { D with nx := N, ct := N, bk := D.nx } σ2 H2)
def kC (fp : List Addr) (h : Heap) : List (Addr × Obj) := fp.filterMap fun b => (h.get? b).map fun o => (b, o)
theorem iR {fp : List Addr} {h : Heap} {b : Addr} {o : Obj} (hb : b ∈ fp) (e : h.get? b = some o) : (b, o) ∈ kC fp h := List.mem_filterMap.mpr ⟨b, hb, by rw [e]; rfl⟩
theorem of_pinsAt {fp : List Addr} {h : Heap} {p : Addr × Obj} (hp : p ∈ kC fp h) : p.1 ∈ fp /\ h.get? p.1 = some p.2 := by
 obtain ⟨b, hb, e⟩ := List.mem_filterMap.mp hp
 cases q : h.get? b with
 | none => rw [q] at e; cases e
 | some o =>
  rw [q] at e
  have e' : (b, o) = p := Option.some.inj e
  subst e'
  exact ⟨hb, q⟩
theorem Inv.pinned {pins : List (Addr × Obj)} {σ : St} {H : Hp} {s : Shared} {fp : List Addr} (I : Inv X pins σ H s) (hf : ∀ b ∈ fp, fJ X pins H b) (ho : ∀ b ∈ fp, ∃ o, s.heap.get? b = some o /\ ∀ v, o.data ≠ .cell v) : Inv X (pins ++ kC fp s.heap) σ H s :=
 I.pins_of fun p hp => (List.mem_append.mp hp).elim (fun z => I.pin p (List.mem_append_right _ z)) fun z => by
  obtain ⟨hb, e⟩ := of_pinsAt z
  obtain ⟨f0, f1, f2, _⟩ := hf p.1 hb
  obtain ⟨o, e', d⟩ := ho p.1 hb
  rw [e] at e'; cases e'
  exact ⟨e, f0, f1, f2, d⟩
theorem Inv.unpinned {pins pl : List (Addr × Obj)} {σ : St} {H : Hp} {s : Shared} (I : Inv X (pins ++ pl) σ H s) : Inv X pins σ H s := I.pins_of fun p hp => I.pin p (List.mem_append_right _ (List.mem_append_left _ hp))
theorem cI {iter : Expr} {body : List Stmt} {wi : TI} {g : TG} {tb : TS} {pos : Pos} (hp : PassesOwn (model X.prog X.w) X.A X.env X.xe) (hc : X.calm = true) (hi : PI X tg iter wi) (hg : PG X tg g) (hb : PSs X body tb)
  (hs : ∀ x, foldedSetIterable iter X.env x = pure x := by intro _; rfl) : PS X (.For tg iter body [] pos) (tFor wi g tb) := by
 intro pins s σ H D I h
 refine wpAny_For (thn (hi pins s σ H _ I h) fun v s1 h1 => thn h1 fun itv s2 h2 => ?_) hs
 obtain ⟨it, fp, tn, J, H2, e, I2, T, st2, f2, W, ⟨m0, w0⟩, turn⟩ := h2
 subst e
 -- what stays true of the iterator's objects through the loop
 have stat : ∀ {H' : Hp}, (∀ b ∈ fp, H' b = none) -> ∀ b ∈ fp, fJ X pins H' b := fun hn b hb => ⟨hn b hb, (f2 b hb).2⟩
 refine codeAny_forLoop_any (fun n s' => ∃ i σ' H', Inv X pins σ' H' s' /\ tn i s'.heap /\ (∀ b ∈ fp, H' b = none) /\ W i n σ' H') ?_ m0 ⟨0, σ, H2, I2, st2, fun b hb => (f2 b hb).1, w0⟩
 rintro n s3 ⟨i, σ3, H3, I3, st3, fr3, w3⟩
 rcases turn i n σ3 H3 w3 with ⟨stop, qn⟩ | ⟨go, N, hN, step⟩
 ·refine wpAny_passesOwn hp (thn (T.done X rfl rfl rfl hc i pins s3 σ3 H3 X.xe I3 (stat fr3) st3 stop) fun r s4 ⟨hr, I4⟩ => ?_)
  subst hr
  exact wpAny_execs_nil ⟨σ3, H3, I4, qn⟩
 ·refine wpAny_passesOwn hp (thn (T.item X rfl rfl rfl hc i pins s3 σ3 H3 X.xe I3 (stat fr3) st3 go) fun r s4 ⟨u, hr, h4⟩ => ?_)
  subst hr
  refine wpAny_passesOwn hp (thn h4 fun _ s5 ⟨x, H5, I5, r5, y5, st5, fr5⟩ => ?_)
  have I5' := I5.pinned (stat fr5) (T.obj _ _ st5)
  refine wpAny_passesOwn hp (thn (hg _ s5 σ3 H5 x u _ I5' r5 (step x H5 y5)) fun _ s6 ⟨σ6, H6, I6, q6⟩ => ?_)
  refine wpAny_passesOwn hp (thn (hb _ s6 σ6 H6 _ I6 q6) fun f s7 q7 => ?_)
  have again : ∀ {σ7 : St} {H7 : Hp}, Inv X (pins ++ kC fp s5.heap) σ7 H7 s7 -> N σ7 H7 -> ∃ m, m < n /\ ∃ i σ' H', Inv X pins σ' H' s7 /\ tn i s7.heap /\ (∀ b ∈ fp, H' b = none) /\ W i m σ' H' := fun {σ7 H7} I7 n7 => by
   obtain ⟨m', hm, w7⟩ := hN σ7 H7 n7
   refine ⟨m', hm, i + 1, σ7, H7, I7.unpinned, T.keep _ _ _ st5 fun b hb o e => (I7.pin (b, o) (List.mem_append_right _ (List.mem_append_right _ (iR hb e)))).1, fun b hb => ?_, w7⟩
   obtain ⟨o, e, d⟩ := T.obj _ _ st5 b hb
   exact (I7.pin (b, o) (List.mem_append_right _ (List.mem_append_right _ (iR hb e)))).2.1
  cases f with
  | next => obtain ⟨σ7, H7, I7, n7⟩ := q7; exact again I7 n7
  | cont => obtain ⟨σ7, H7, I7, n7⟩ := q7; exact again I7 n7
  | brk => obtain ⟨σ7, H7, I7, q7⟩ := q7; exact ⟨σ7, H7, I7.unpinned, q7⟩
  | ret v => obtain ⟨x7, σ7, H7, I7, r7, q7⟩ := q7; exact ⟨x7, σ7, H7, I7.unpinned, r7, q7⟩
end
theorem dO {K : PySem.W.Frag} {a : Addr} {xs : List V} {g : TG} {tb : TS} {D : g9} {σ : St} {H : Hp} (Pv : Nat -> St -> Hp -> Prop) (h0 : Pv 0 σ H) (hl : ∀ i σ H, i <= xs.length -> Pv i σ H -> SqL K H a xs)
  (hs : ∀ i x σ H, xs[i]? = some x -> Pv i σ H -> g x σ H fun σ2 H2 => tb { D with nx := Pv (i + 1), ct := Pv (i + 1), bk := D.nx } σ2 H2) (hd : ∀ σ H, Pv xs.length σ H -> D.nx σ H) :
  ∃ W : Nat -> Nat -> St -> Hp -> Prop, (∃ m, W 0 m σ H) /\ ∀ i m σ H, W i m σ H ->
   ((Itl K a).stop i H /\ D.nx σ H) \/ ((Itl K a).go i H /\ ∃ N : St -> Hp -> Prop, (∀ σ' H', N σ' H' -> ∃ m', m' < m /\ W (i + 1) m' σ' H') /\ ∀ x H', (Itl K a).yld i H x H' -> g x σ H' fun σ2 H2 => tb { D with nx := N, ct := N, bk := D.nx } σ2 H2) := by
 refine ⟨fun i m σ H => m = xs.length - i /\ i <= xs.length /\ Pv i σ H, ⟨xs.length, by simp, Nat.zero_le _, h0⟩, ?_⟩
 rintro i m σ H ⟨rfl, hi, p⟩
 have q := hl i σ H hi p
 by_cases hlt : i < xs.length
 ·refine .inr ⟨⟨xs, xs[i], q, by simp [hlt]⟩, Pv (i + 1), fun σ' H' p' => ⟨xs.length - (i + 1), by omega, rfl, hlt, p'⟩, fun x H' y => ?_⟩
  obtain ⟨e, y⟩ := y
  subst e
  exact hs i x σ _ (y xs q) p
 ·have e : i = xs.length := by omega
  subst e
  exact .inl ⟨⟨xs, q, Nat.le_refl _⟩, hd σ H p⟩
theorem for_tup {K : PySem.W.Frag} {a : Addr} {xs : List V} {g : TG} {tb : TS} {D : g9} {σ : St} {H : Hp} (Pv : Nat -> St -> Hp -> Prop) (h0 : Pv 0 σ H) (hl : ∀ i σ H, i <= xs.length -> Pv i σ H -> SqT K H a xs)
  (hs : ∀ i x σ H, xs[i]? = some x -> Pv i σ H -> g x σ H fun σ2 H2 => tb { D with nx := Pv (i + 1), ct := Pv (i + 1), bk := D.nx } σ2 H2) (hd : ∀ σ H, Pv xs.length σ H -> D.nx σ H) :
  ∃ W : Nat -> Nat -> St -> Hp -> Prop, (∃ m, W 0 m σ H) /\ ∀ i m σ H, W i m σ H ->
   ((Itt K a).stop i H /\ D.nx σ H) \/ ((Itt K a).go i H /\ ∃ N : St -> Hp -> Prop, (∀ σ' H', N σ' H' -> ∃ m', m' < m /\ W (i + 1) m' σ' H') /\ ∀ x H', (Itt K a).yld i H x H' -> g x σ H' fun σ2 H2 => tb { D with nx := N, ct := N, bk := D.nx } σ2 H2) := by
 refine ⟨fun i m σ H => m = xs.length - i /\ i <= xs.length /\ Pv i σ H, ⟨xs.length, by simp, Nat.zero_le _, h0⟩, ?_⟩
 rintro i m σ H ⟨rfl, hi, p⟩
 have q := hl i σ H hi p
 by_cases hlt : i < xs.length
 ·refine .inr ⟨⟨xs, xs[i], q, by simp [hlt]⟩, Pv (i + 1), fun σ' H' p' => ⟨xs.length - (i + 1), by omega, rfl, hlt, p'⟩, fun x H' y => ?_⟩
  obtain ⟨e, y⟩ := y
  subst e
  exact hs i x σ _ (y xs q) p
 ·have e : i = xs.length := by omega
  subst e
  exact .inl ⟨⟨xs, q, Nat.le_refl _⟩, hd σ H p⟩
theorem iF {lo : Int} {n : Nat} {g : TG} {tb : TS} {D : g9} {σ : St} {H : Hp} (Pv : Nat -> St -> Hp -> Prop) (h0 : Pv 0 σ H)
  (hs : ∀ i σ H, i < n -> Pv i σ H -> g (.int (lo + i)) σ H fun σ2 H2 => tb { D with nx := Pv (i + 1), ct := Pv (i + 1), bk := D.nx } σ2 H2) (hd : ∀ σ H, Pv n σ H -> D.nx σ H) :
  ∃ W : Nat -> Nat -> St -> Hp -> Prop, (∃ m, W 0 m σ H) /\ ∀ i m σ H, W i m σ H ->
   ((Itr lo n).stop i H /\ D.nx σ H) \/ ((Itr lo n).go i H /\ ∃ N : St -> Hp -> Prop, (∀ σ' H', N σ' H' -> ∃ m', m' < m /\ W (i + 1) m' σ' H') /\ ∀ x H', (Itr lo n).yld i H x H' -> g x σ H' fun σ2 H2 => tb { D with nx := N, ct := N, bk := D.nx } σ2 H2) := by
 refine ⟨fun i m σ H => m = n - i /\ i <= n /\ Pv i σ H, ⟨n, by simp, Nat.zero_le _, h0⟩, ?_⟩
 rintro i m σ H ⟨rfl, hi, p⟩
 by_cases hlt : i < n
 ·refine .inr ⟨hlt, Pv (i + 1), fun σ' H' p' => ⟨n - (i + 1), by omega, rfl, hlt, p'⟩, fun x H' y => ?_⟩
  obtain ⟨e, y⟩ := y
  subst e y
  exact hs i σ _ hlt p
 ·have e : i = n := by omega
  subst e
  exact .inl ⟨Nat.le_refl _, hd σ H p⟩
theorem m5 {c : TT} {tb : TS} {D : g9} {σ : St} {H : Hp} (Pv : St -> Hp -> Prop) (μ : St -> Hp -> Nat) (h0 : Pv σ H)
  (hs : ∀ σ H, Pv σ H -> c σ H fun b H1 => if b = true then tb { D with nx := fun σ' H' => Pv σ' H' /\ μ σ' H' < μ σ H, ct := fun σ' H' => Pv σ' H' /\ μ σ' H' < μ σ H, bk := D.nx } σ H1 else D.nx σ H1)
  (mono : ∀ σ H Q Q', (∀ b H1, Q b H1 -> Q' b H1) -> c σ H Q -> c σ H Q') : tWhile c tb D σ H := by
 refine ⟨fun m σ H => m = μ σ H /\ Pv σ H, ⟨_, rfl, h0⟩, ?_⟩
 rintro m σ H ⟨rfl, p⟩
 refine mono σ H _ _ (fun b H1 q => ?_) (hs σ H p)
 cases b with
 | true => exact ⟨_, fun σ' H' ⟨p', l⟩ => ⟨_, l, rfl, p'⟩, q⟩
 | false => exact q
end L2
namespace L2
open PySem PySem.Spec PyProof.Rows
abbrev R2 := V -> V -> Hp -> VK -> Prop
def OpR (X : Cx) (f : Value -> Value -> Sem Value) (r : R2) : Prop :=
 ∀ (pins : List (Addr × Obj)) (s : Shared) (σ : St) (H : Hp) (x y : V) (v u : Value) (Q : VK), Inv X pins σ H s -> RelV x v -> RelV y u -> r x y H Q ->
  wpAny (model X.prog X.w) X.A (f v u) (EP X pins σ Q) X.xe s
def UnR (X : Cx) (f : Value -> Sem Value) (r : V -> Hp -> VK -> Prop) : Prop :=
 ∀ (pins : List (Addr × Obj)) (s : Shared) (σ : St) (H : Hp) (x : V) (v : Value) (Q : VK), Inv X pins σ H s -> RelV x v -> r x H Q ->
  wpAny (model X.prog X.w) X.A (f v) (EP X pins σ Q) X.xe s
def dX (X : Cx) (f : Value) (r : List V -> Hp -> VK -> Prop) : Prop :=
 ∀ (pins : List (Addr × Obj)) (s : Shared) (σ : St) (H : Hp) (xs : List V) (us : List Value) (Q : VK), Inv X pins σ H s -> Vals xs us -> r xs H Q ->
  wpAny (model X.prog X.w) X.A (call f us) (EP X pins σ Q) X.xe s
def tOp (r : R2) (ta tb : TE) : TE := fun σ H Q => ta σ H fun x H1 => tb σ H1 fun y H2 => r x y H2 Q
def tUn (r : V -> Hp -> VK -> Prop) (ta : TE) : TE := fun σ H Q => ta σ H fun x H1 => r x H1 Q
def rI (C : Int -> Int -> Prop) (g : Int -> Int -> V) : R2 := fun x y H Q => ∃ i j, x = .int i /\ y = .int j /\ C i j /\ Q (g i j) H
def rI0 (g : Int -> Int -> V) : R2 := fun x y H Q => ∃ i j, x = .int i /\ y = .int j /\ Q (g i j) H
def rU (g : Int -> V) : V -> Hp -> VK -> Prop := fun x H Q => ∃ i, x = .int i /\ Q (g i) H
section
variable {X : Cx} {a b c : Expr} {ta tb tc : TE} {pos : Pos}
theorem binT (ha : PE X a ta) (hb : PE X b tb) {pins : List (Addr × Obj)} {s : Shared} {σ : St} {H : Hp} {R : V -> V -> Hp -> Prop} (I : Inv X pins σ H s)
  (h : ta σ H fun x H1 => tb σ H1 fun y H2 => R x y H2) {Q : Value -> Shared -> Prop} {f : Value -> Value -> Sem Value}
  (hf : ∀ v u s2 x y H2, Inv X pins σ H2 s2 -> RelV x v -> RelV y u -> R x y H2 -> wpAny (model X.prog X.w) X.A (f v u) Q X.xe s2) :
  wpAny (model X.prog X.w) X.A (eval a X.env) (fun v s₁ => wpAny (model X.prog X.w) X.A (eval b X.env) (fun u s₂ => wpAny (model X.prog X.w) X.A (f v u) Q X.xe s₂) X.xe s₁) X.xe s := by
 refine thn (ha pins s σ H _ I h) fun v s1 ⟨x, H1, I1, r1, q1⟩ => ?_
 refine thn (hb pins s1 σ H1 _ I1 q1) fun u s2 ⟨y, H2, I2, r2, q2⟩ => ?_
 exact hf v u s2 x y H2 I2 r1 r2 q2
theorem aJ {op : Operator} {r : R2} (ho : OpR X (binaryOp op) r) (ha : PE X a ta) (hb : PE X b tb) : PE X (.BinOp a op b pos) (tOp r ta tb) := by
 intro pins s σ H Q I h
 exact wpAny_BinOp (binT ha hb I h fun v u s2 x y H2 I2 rx ry q => ho pins s2 σ H2 x y v u Q I2 rx ry q)
theorem gT {op : UnaryOp} {r : V -> Hp -> VK -> Prop} (ho : UnR X (unaryOp op) r) (ha : PE X a ta) : PE X (.UnaryOp op a pos) (tUn r ta) := by
 intro pins s σ H Q I h
 exact UnaryOp_ (thn (ha pins s σ H _ I h) fun v s1 ⟨x, H1, I1, r1, q1⟩ => ho pins s1 σ H1 x v Q I1 r1 q1)
theorem opI {f : Value -> Value -> Sem Value} {C : Int -> Int -> Prop} {g : Int -> Int -> Int}
  (rule : ∀ (i j : Int) (t u : Tok) (s : Shared) (Q : Value -> Shared -> Prop) (E : Value -> Shared -> Prop), C i j -> Q (.int (g i j) s.toks) { s with toks := s.toks + 1 } -> wpAny (model X.prog X.w) X.A (f (.int i t) (.int j u)) Q E s) :
  OpR X f (rI C fun i j => .int (g i j)) := by
 intro pins s σ H x y v u Q I rx ry h
 obtain ⟨i, j, rfl, rfl, hc, q⟩ := h
 obtain ⟨t, rfl⟩ := rx
 obtain ⟨t', rfl⟩ := ry
 exact rule i j t t' s _ _ hc ⟨.int (g i j), H, I.tok _, ⟨_, rfl⟩, q⟩
theorem opI0 {f : Value -> Value -> Sem Value} {g : Int -> Int -> Int}
  (rule : ∀ (i j : Int) (t u : Tok) (s : Shared) (Q : Value -> Shared -> Prop) (E : Value -> Shared -> Prop), Q (.int (g i j) s.toks) { s with toks := s.toks + 1 } -> wpAny (model X.prog X.w) X.A (f (.int i t) (.int j u)) Q E s) :
  OpR X f (rI0 fun i j => .int (g i j)) := by
 intro pins s σ H x y v u Q I rx ry h
 obtain ⟨i, j, rfl, rfl, q⟩ := h
 obtain ⟨t, rfl⟩ := rx
 obtain ⟨t', rfl⟩ := ry
 exact rule i j t t' s _ _ ⟨.int (g i j), H, I.tok _, ⟨_, rfl⟩, q⟩
theorem opB0 {f : Value -> Value -> Sem Value} {g : Int -> Int -> Bool}
  (rule : ∀ (i j : Int) (t u : Tok) (s : Shared) (Q : Value -> Shared -> Prop) (E : Value -> Shared -> Prop), Q (.bool (g i j)) s -> wpAny (model X.prog X.w) X.A (f (.int i t) (.int j u)) Q E s) :
  OpR X f (rI0 fun i j => .bl (g i j)) := by
 intro pins s σ H x y v u Q I rx ry h
 obtain ⟨i, j, rfl, rfl, q⟩ := h
 obtain ⟨t, rfl⟩ := rx
 obtain ⟨t', rfl⟩ := ry
 exact rule i j t t' s _ _ ⟨.bl (g i j), H, I, rfl, q⟩
def CPow (i j : Int) : Prop := 0 <= j /\ j <= 1000000 /\ i.natAbs < 2 ^ 64
theorem cB : OpR X (binaryOp .Add) (rI0 fun i j => .int (i + j)) := opI0 fun _ _ _ _ _ _ _ q => add_int q
theorem fQ : OpR X (binaryOp .Sub) (rI0 fun i j => .int (i - j)) := opI0 fun _ _ _ _ _ _ _ q => sub_int q
theorem cL : OpR X (binaryOp .Mod) (rI (fun _ j => 0 < j) fun i j => .int (i % j)) := opI fun i j _ _ _ _ _ hc q => by
 have h1 : (0 : Int) < j := hc
 exact mod_int' (by omega) (by rw [Int.fmod_eq_emod_of_nonneg i (by omega)]; exact q)
theorem op_pow : OpR X (binaryOp .Pow) (rI CPow fun i j => .int (i ^ j.toNat)) := opI fun _ _ _ _ _ _ _ hc q => pow_int_small hc.1 hc.2.1 hc.2.2 q
theorem unI {f : Value -> Sem Value} {g : Int -> Int}
  (rule : ∀ (i : Int) (t : Tok) (s : Shared) (Q : Value -> Shared -> Prop) (E : Value -> Shared -> Prop), Q (.int (g i) s.toks) { s with toks := s.toks + 1 } -> wpAny (model X.prog X.w) X.A (f (.int i t)) Q E s) :
  UnR X f (rU fun i => .int (g i)) := by
 intro pins s σ H x v Q I rx h
 obtain ⟨i, rfl, q⟩ := h
 obtain ⟨t, rfl⟩ := rx
 exact rule i t s _ _ ⟨.int (g i), H, I.tok _, ⟨_, rfl⟩, q⟩
theorem eZ : UnR X (unaryOp .USub) (rU fun i => .int (-i)) := unI fun _ _ _ _ _ q => neg_int q
end
def scal : V -> V -> Bool
 | .non, .non => true | .non, .int _ => true | .int _, .non => true | .non, .bl _ => true | .bl _, .non => true | .non, .str _ => true | .str _, .non => true
 | .int _, .int _ => true | .bl _, .bl _ => true | .str _, .str _ => true | .byt _, .byt _ => true
 | .int _, .str _ => true | .str _, .int _ => true | .bl _, .str _ => true | .str _, .bl _ => true
 | _, _ => false
def rEq : R2 := fun x y H Q => scal x y = true /\ Q (.bl (decide (x = y))) H
def rNe : R2 := fun x y H Q => scal x y = true /\ Q (.bl (!decide (x = y))) H
theorem dec_int {i j : Int} : decide (V.int i = V.int j) = (i == j) := by
 rw [Bool.eq_iff_iff]
 simp
theorem dec_bl {i j : Bool} : decide (V.bl i = V.bl j) = (i == j) := by
 rw [Bool.eq_iff_iff]
 simp
theorem dec_str {i j : Str} : decide (V.str i = V.str j) = (i == j) := by
 rw [Bool.eq_iff_iff]
 simp
theorem dec_byt {i j : Array UInt8} : decide (V.byt i = V.byt j) = (i.toList == j.toList) := by
 rw [Bool.eq_iff_iff]
 cases i
 cases j
 simp
section
variable {X : Cx} {a b c : Expr} {ta tb tc : TE} {pos : Pos}
theorem bN {pins : List (Addr × Obj)} {σ : St} {H : Hp} {s : Shared} {Q : VK} {k k' : Bool} (I : Inv X pins σ H s) (q : Q (.bl k) H) (e : k = k') : EP X pins σ Q (.bool k') s := by
 subst e
 exact ⟨.bl k, H, I, rfl, q⟩
theorem dH : OpR X (compareOp .Eq) rEq := by
 intro pins s σ H x y v u Q I rx ry h
 obtain ⟨hs, q⟩ := h
 cases x with
 | non =>
  cases rx
  cases y with
  | non => cases ry; exact PySem.EqNone.eq_none_none (bN I q (by simp))
  | bl j => cases ry; exact PySem.EqNone.eq_none_bool (bN I q (by simp))
  | int j => obtain ⟨t', rfl⟩ := ry; exact PySem.EqNone.eq_none_int (bN I q (by simp))
  | str j => obtain ⟨t', rfl⟩ := ry; exact PySem.EqNone.eq_none_str (bN I q (by simp))
  | _ => exact absurd (show false = true from hs) Bool.false_ne_true
 | bl i =>
  cases rx
  cases y with
  | non => cases ry; exact PySem.EqNone.eq_bool_none (bN I q (by simp))
  | bl j => cases ry; exact eq_bool (bN I q dec_bl)
  | str j => obtain ⟨t', rfl⟩ := ry; exact PySem.EqMixed.eq_bool_str (bN I q (by simp))
  | _ => exact absurd (show false = true from hs) Bool.false_ne_true
 | int i =>
  obtain ⟨t, rfl⟩ := rx
  cases y with
  | non => cases ry; exact PySem.EqNone.eq_int_none (bN I q (by simp))
  | int j => obtain ⟨t', rfl⟩ := ry; exact eq_int (bN I q dec_int)
  | str j => obtain ⟨t', rfl⟩ := ry; exact PySem.EqMixed.eq_int_str (bN I q (by simp))
  | _ => exact absurd (show false = true from hs) Bool.false_ne_true
 | str i =>
  obtain ⟨t, rfl⟩ := rx
  cases y with
  | non => cases ry; exact PySem.EqNone.eq_str_none (bN I q (by simp))
  | bl j => cases ry; exact PySem.EqMixed.eq_str_bool (bN I q (by simp))
  | int j => obtain ⟨t', rfl⟩ := ry; exact PySem.EqMixed.eq_str_int (bN I q (by simp))
  | str j => obtain ⟨t', rfl⟩ := ry; exact eq_str (bN I q dec_str)
  | _ => exact absurd (show false = true from hs) Bool.false_ne_true
 | byt i =>
  obtain ⟨t, rfl⟩ := rx
  cases y with
  | byt j => obtain ⟨t', rfl⟩ := ry; exact PySem.W.eq_bytes (bN I q dec_byt)
  | _ => exact absurd (show false = true from hs) Bool.false_ne_true
 | _ => cases y <;> exact absurd (show false = true from hs) Bool.false_ne_true
theorem oM : OpR X (compareOp .NotEq) rNe := by
 intro pins s σ H x y v u Q I rx ry h
 obtain ⟨hs, q⟩ := h
 cases x with
 | non =>
  cases rx
  cases y with
  | non => cases ry; exact PySem.EqNone.ne_none_none (bN I q (by simp))
  | bl j => cases ry; exact PySem.EqNone.ne_none_bool (bN I q (by simp))
  | int j => obtain ⟨t', rfl⟩ := ry; exact PySem.EqNone.ne_none_int (bN I q (by simp))
  | str j => obtain ⟨t', rfl⟩ := ry; exact PySem.EqNone.ne_none_str (bN I q (by simp))
  | _ => exact absurd (show false = true from hs) Bool.false_ne_true
 | bl i =>
  cases rx
  cases y with
  | non => cases ry; exact PySem.EqNone.ne_bool_none (bN I q (by simp))
  | bl j => cases ry; exact ne_bool (bN I q (congrArg not dec_bl))
  | str j => obtain ⟨t', rfl⟩ := ry; exact PySem.EqMixed.ne_bool_str (bN I q (by simp))
  | _ => exact absurd (show false = true from hs) Bool.false_ne_true
 | int i =>
  obtain ⟨t, rfl⟩ := rx
  cases y with
  | non => cases ry; exact PySem.EqNone.ne_int_none (bN I q (by simp))
  | int j => obtain ⟨t', rfl⟩ := ry; exact ne_int (bN I q (congrArg not dec_int))
  | str j => obtain ⟨t', rfl⟩ := ry; exact PySem.EqMixed.ne_int_str (bN I q (by simp))
  | _ => exact absurd (show false = true from hs) Bool.false_ne_true
 | str i =>
  obtain ⟨t, rfl⟩ := rx
  cases y with
  | non => cases ry; exact PySem.EqNone.ne_str_none (bN I q (by simp))
  | bl j => cases ry; exact PySem.EqMixed.ne_str_bool (bN I q (by simp))
  | int j => obtain ⟨t', rfl⟩ := ry; exact PySem.EqMixed.ne_str_int (bN I q (by simp))
  | str j => obtain ⟨t', rfl⟩ := ry; exact ne_str (bN I q (congrArg not dec_str))
  | _ => exact absurd (show false = true from hs) Bool.false_ne_true
 | byt i =>
  obtain ⟨t, rfl⟩ := rx
  cases y with
  | byt j => obtain ⟨t', rfl⟩ := ry; exact PySem.W.ne_bytes (bN I q (congrArg not dec_byt))
  | _ => exact absurd (show false = true from hs) Bool.false_ne_true
 | _ => cases y <;> exact absurd (show false = true from hs) Bool.false_ne_true
theorem oN : OpR X (compareOp .Lt) (rI0 fun i j => .bl (decide (i < j))) := opB0 fun _ _ _ _ _ _ _ q => lt_int q
theorem op_le : OpR X (compareOp .LtE) (rI0 fun i j => .bl (decide (i <= j))) := opB0 fun _ _ _ _ _ _ _ q => le_int q
theorem mO : OpR X (compareOp .Gt) (rI0 fun i j => .bl (decide (j < i))) := opB0 fun _ _ _ _ _ _ _ q => gt_int q
theorem op_isN : OpR X (compareOp .Is) (fun x y H Q => y = .non /\ Q (.bl (decide (x = .non))) H) := by
 intro pins s σ H x y v u Q I rx ry h
 obtain ⟨rfl, q⟩ := h
 cases ry
 refine is_none_gen (bN I q ?_)
 cases x <;> first
  | (cases rx; rfl)
  | (obtain ⟨t, rfl⟩ := rx; rfl)
theorem bA (b : Expr) {op : CmpOp} (h : op ≠ .In := by decide) (h2 : op ≠ .NotIn := by decide) : behindInMarks op b = false := by
 have e1 : (op == CmpOp.In) = false := by cases op <;> first | rfl | exact absurd rfl h
 have e2 : (op == CmpOp.NotIn) = false := by cases op <;> first | rfl | exact absurd rfl h2
 cases b <;> simp [behindInMarks, e1, e2]
theorem fH {op : CmpOp} {r : R2} (ho : OpR X (compareOp op) r) (ha : PE X a ta) (hb : PE X b tb) (hm : behindInMarks op b = false) : PE X (.Compare a [op] [b] pos) (tOp r ta tb) := by
 intro pins s σ H Q I h
 exact wpAny_Compare1 (binT ha hb I h fun v u s2 x y H2 I2 rx ry q => ho pins s2 σ H2 x y v u Q I2 rx ry q) hm
def tTest (t : TE) : TT := fun σ H Q => t σ H fun x H' => ∃ k, x = .bl k /\ Q k H'
theorem bB {op : CmpOp} {r : R2} (ho : OpR X (compareOp op) r) (ha : PE X a ta) (hb : PE X b tb) (hm : behindInMarks op b = false) : PT X (.Compare a [op] [b] pos) (tTest (tOp r ta tb)) := by
 intro pins s σ H Q I h
 refine wpAny_isTrue_Compare1 (thn (ha pins s σ H _ I h) fun v s1 ⟨x, H1, I1, r1, q1⟩ => thn (hb pins s1 σ H1 _ I1 q1) fun u s2 ⟨y, H2, I2, r2, q2⟩ =>
  thn (ho pins s2 σ H2 x y v u _ I2 r1 r2 q2) fun c s3 ⟨z, H3, I3, r3, k, e, q3⟩ => ?_) hm
 subst e
 cases r3
 exact wpAny_truthy_bool ⟨H3, I3, q3⟩
def tChain (r r' : R2) (ta tb tc : TE) : TE := fun σ H Q => ta σ H fun x H1 => tb σ H1 fun y H2 => r x y H2 fun z H3 => ∃ k, z = .bl k /\
 (if k = true then tc σ H3 fun w' H4 => r' y w' H4 Q else Q (.bl false) H3)
theorem pt_chain {op op' : CmpOp} {r r' : R2} (ho : OpR X (compareOp op) r) (ho' : OpR X (compareOp op') r') (ha : PE X a ta) (hb : PE X b tb) (hc : PE X c tc)
  (hm : lastMarks [op, op'] [b, c] = false := by with_unfolding_all rfl) : PT X (.Compare a [op, op'] [b, c] pos) (tTest (tChain r r' ta tb tc)) := by
 intro pins s σ H Q I h
 refine isTrue_chain (thn (ha pins s σ H _ I h) fun v s1 ⟨x, H1, I1, r1, q1⟩ => test_link (thn (hb pins s1 σ H1 _ I1 q1) fun u s2 ⟨y, H2, I2, r2, q2⟩ =>
  thn (ho pins s2 σ H2 x y v u _ I2 r1 r2 q2) fun d s3 ⟨z, H3, I3, r3, k, e, q3⟩ => ?_)) hm
 subst e
 cases r3
 refine wpAny_truthy_bool ?_
 cases k with
 | false =>
  obtain ⟨k', e', q'⟩ := q3
  cases e'
  exact ite_ff ⟨H3, I3, q'⟩
 | true =>
  refine ite_tt (test_last (thn (hc pins s3 σ H3 _ I3 q3) fun w' s4 ⟨z', H4, I4, r4, q4⟩ => thn (ho' pins s4 σ H4 y z' u w' _ I4 r2 r4 q4) fun d' s5 ⟨z2, H5, I5, r5, k2, e2, q5⟩ => ?_))
  subst e2
  cases r5
  exact wpAny_truthy_bool ⟨H5, I5, q5⟩
theorem oO : (sizeLine : Nat) < 2 ^ 63 := by rw [sizeLine_eq]; decide
theorem fS {x : V} {us : List Value} (r : Vals [x] us) : ∃ u, us = [u] /\ RelV x u := by
 cases r with
 | cons r1 r2 => cases r2; exact ⟨_, rfl, r1⟩
theorem vals2 {x y : V} {us : List Value} (r : Vals [x, y] us) : ∃ u w', us = [u, w'] /\ RelV x u /\ RelV y w' := by
 cases r with
 | cons r1 r2 =>
  cases r2 with
  | cons r3 r4 => cases r4; exact ⟨_, _, rfl, r1, r3⟩
theorem nU : dX X (.builtin "abs") (fun xs H Q => ∃ i, xs = [.int i] /\ Q (.int (if i < 0 then -i else i)) H) := by
 intro pins s σ H xs us Q I r h
 obtain ⟨i, rfl, q⟩ := h
 obtain ⟨u, rfl, t, rfl⟩ := fS r
 exact call_abs_int fun u tk => ⟨.int (if i < 0 then -i else i), H, I.tok _, ⟨_, rfl⟩, q⟩
theorem gQ : dX X (.type "int") (fun xs H Q => (∃ i, xs = [.int i] /\ Q (.int i) H) \/ ∃ k, xs = [.bl k] /\ Q (.int (if k then 1 else 0)) H) := by
 intro pins s σ H xs us Q I r h
 rcases h with ⟨i, rfl, q⟩ | ⟨k, rfl, q⟩
 ·obtain ⟨u, rfl, t, rfl⟩ := fS r
  exact call_int_int ⟨.int i, H, I, ⟨_, rfl⟩, q⟩
 ·obtain ⟨u, rfl, r1⟩ := fS r
  cases r1
  exact call_int_bool ⟨.int (if k then 1 else 0), H, I.tok _, ⟨_, rfl⟩, q⟩
end
end L2
namespace L2
open PySem PySem.Spec PyProof.Rows
structure ObjM (h : Heap) (x dx C : Addr) (mA : Str -> Option Value) : Prop where
 obj : h.get? x = some (PySem.W.instObj C dx)
 ns : h.Ns1 dx mA
 ne : dx ≠ x
theorem lookIn_ns {h : Heap} {dx : Addr} {mA : Str -> Option Value} (n : h.Ns1 dx mA) : ∃ od, h.get? dx = some od /\ ∀ name, PySem.W.lookIn name od = some (mA name) := by
 obtain ⟨o, es, ep, ho, hd, hk, _, hm⟩ := n
 refine ⟨o, ho, fun name => ?_⟩
 have e := hm name
 unfold nsFind findBy at e
 rw [<- Array.find?_toList] at e
 unfold PySem.W.lookIn
 rw [hd]
 dsimp only
 split
 ·rename_i y q
  rw [q] at e
  exact congrArg some e
 ·rename_i q
  rw [q] at e
  have a : es.toList.any (·.refKey) = false := by
   rw [List.any_eq_false]
   intro y hy
   obtain ⟨z, t, hkey⟩ := hk y (Array.mem_toList_iff.mp hy)
   simp [DictEntry.refKey, hkey]
  have a' : ¬ es.toList.any (·.refKey) = true := by rw [a]; exact Bool.false_ne_true
  rw [if_neg a']
  exact congrArg some e
theorem ObjM.look {h : Heap} {x dx C : Addr} {mA : Str -> Option Value} (I : ObjM h x dx C mA) : ∃ od, PySem.W.InstAt h x (PySem.W.instObj C dx) C (some od) /\ ∀ name, PySem.W.lookIn name od = some (mA name) :=
 let ⟨od, ho, hl⟩ := lookIn_ns I.ns
 ⟨od, ⟨I.obj, rfl, rfl, ho⟩, hl⟩
section
variable {prog : Program} {w : World} {A : Around} {E : Value -> Shared -> Prop} {s : Shared} {K : PySem.W.Frag} {x dx C f : Addr} {mA : Str -> Option Value} {name : Str} {v : Value}
theorem get_map {expr : Bool} {Q : Value -> Shared -> Prop} (X : K.In s.heap) (I : ObjM s.heap x dx C mA) (hg : PySem.W.plainGet K C name = true) (hh : PySem.W.hasDictIn K C = true)
  (ha : PySem.W.findIn K (.ref C) name = some none) (hv : mA name = some v) (hv' : PySem.W.handedIn v = true) (h : Q v { s with toks := s.toks + 1 }) :
  wpAny (model prog w) A (getAttr (.ref x) name expr) Q E s := by
 obtain ⟨od, J, hl⟩ := I.look
 exact PySem.W.get_value X J (PySem.W.plainGet_of hg).1 (PySem.W.findObj_own hh ha rfl (by rw [hl, hv])) hv' h
theorem get_meth {pl : Sem Bool} {Q : Value × List Value -> Shared -> Prop} (X : K.In s.heap) (I : ObjM s.heap x dx C mA) (hg : PySem.W.plainGet K C name = true)
  (hf : PySem.W.findIn K (.ref C) name = some (some (.ref f))) (ht : PySem.W.isFn K (.ref f) = true) (hv : mA name = none) (h : Q (.ref f, [.ref x]) s) :
  wpAny (model prog w) A (getMethod (.ref x) name pl) Q E s := by
 obtain ⟨od, J, hl⟩ := I.look
 exact PySem.W.method_fn X J (PySem.W.plainGet_of hg).1 (PySem.W.plainGet_of hg).2 hf (beq_iff_eq.mp ht) (by show (PySem.W.lookIn name od).map (·.isSome) = some false; rw [hl, hv]; rfl) h
theorem set_map {ns : List Str} {Q : Unit -> Shared -> Prop} (X : K.In s.heap) (I : ObjM s.heap x dx C mA)
  (hs : PySem.W.findIn K (.ref C) "__setattr__" = some (some (.builtin "object.__setattr__"))) (hp : PySem.W.plainOver K C = true) (ht : PySem.W.takerIn K C name = some none) (hh : PySem.W.hasDictIn K C = true)
  (hw : PySem.Within mA ns) (hsz : ns.length <= sizeLine)
  (h : ∀ h', ObjM h' x dx C (fun y => if y = name then some v else mA y) -> Heap.SameBut dx s.heap h' -> Q () { s with heap := h', toks := s.toks + 2 }) :
  wpAny (model prog w) A (setAttr (.ref x) name v) Q E s := by
 obtain ⟨od, J, hl⟩ := I.look
 refine PySem.W.set_plain X J hs (PySem.W.osa_open (s := { s with toks := s.toks + 1 }) (r := none) X J hp ht fun b => ?_)
 obtain ⟨cd, hc, hd'⟩ := PySem.W.any_some hh
 have hx : s.heap.get? x = some ⟨.ref C, some dx, .plain, #[]⟩ := I.obj
 refine wpAny_bind (wpAny_pure (wpAny_bind (wpAny_bind (wpAny_loadPart hx (wpAny_bind (PySem.W.Looks.here (s := { s with toks := s.toks + 1 }) (PySem.W.looks_clsIn X hc) ?_))))))
 rw [hd']
 refine wpAny_pure (a := some dx) (wpAny_bind (wpAny_pure (wpAny_bind ?_)))
 refine wpAny_nsSet1 (s := { s with toks := s.toks + 1 }) I.ns fun h' hn2 hs2 => ?_
 obtain ⟨oD, esD, epD, hoD, hdD, hcD⟩ := hn2.count (PySem.Within.cons name v hw)
 refine wpAny_bind (wpAny_lookBehind hoD (by rw [hdD]; exact pastItsLine_dict (Nat.le_trans hcD (by rw [List.length_cons]; omega))) ?_)
 exact wpAny_pure (h _ ⟨(hs2.2 _ (Ne.symm I.ne)).trans I.obj, hn2, I.ne⟩ hs2)
theorem make_map {R : Result -> Shared -> Prop} {vs : List Value} {kw : List (Str × Value)} (X : K.In s.heap) (hm : PySem.W.makesIn K C = true)
  (hi : PySem.W.findIn K (.ref C) "__init__" = some (some (.ref f))) (hf : PySem.W.typeIn K (.ref f) = some (.type "function"))
  (h : codeAny (model prog w) (A.under (.builtin "type.__call__" ⟨.ref C :: vs, kw⟩)) (.call (.ref f) ⟨.ref (s.heap.objs.size + 1) :: vs, kw⟩) (PySem.W.InitBack (s.heap.objs.size + 1) R)
   { s with heap := (s.heap.push PySem.W.emptyDict).push (PySem.W.instObj C s.heap.objs.size) }) :
  codeAny (model prog w) A (.call (.ref C) ⟨vs, kw⟩) R s := by
 obtain ⟨hh, g, d, t, os⟩ := s
 exact PySem.W.make_core (PySem.W.makes_of X hm) (PySem.W.looks_findIn X hi) (fun self => PySem.W.bind_fn X self hf) (.inl rfl) h
end
def bI (f : Str) (v : V) : List (Str × V) -> List (Str × V)
 | [] => [(f, v)]
 | (g, x) :: r => if g = f then (g, v) :: r else (g, x) :: bI f v r
theorem aT (f g : Str) (v : V) : ∀ fs : List (Str × V), (bI f v fs).lookup g = if g = f then some v else fs.lookup g
 | [] => by
  show List.lookup g [(f, v)] = _
  by_cases h : g = f
  ·have hb : (g == f) = true := beq_iff_eq.mpr h
   simp only [List.lookup, hb, if_pos h]
  ·have hb : (g == f) = false := beq_eq_false_iff_ne.mpr h
   simp only [List.lookup, hb, if_neg h]
 | (k, x) :: r => by
  have ih := aT f g v r
  rw [show bI f v ((k, x) :: r) = (if k = f then (k, v) :: r else (k, x) :: bI f v r) from rfl]
  by_cases hk : k = f
  ·rw [if_pos hk]
   by_cases h : g = k
   ·have hb : (g == k) = true := beq_iff_eq.mpr h
    simp only [List.lookup, hb, if_pos (h.trans hk)]
   ·have hb : (g == k) = false := beq_eq_false_iff_ne.mpr h
    simp only [List.lookup, hb, if_neg (fun e : g = f => h (e.trans hk.symm))]
  ·rw [if_neg hk]
   by_cases h : g = k
   ·have hb : (g == k) = true := beq_iff_eq.mpr h
    simp only [List.lookup, hb, if_neg (fun e : g = f => hk (h.symm.trans e))]
   ·have hb : (g == k) = false := beq_eq_false_iff_ne.mpr h
    simp only [List.lookup, hb]
    exact ih
theorem lW (f : Str) (v : V) : ∀ fs : List (Str × V), f ∈ (bI f v fs).map (·.1) /\ ∀ g, g ∈ fs.map (·.1) -> g ∈ (bI f v fs).map (·.1)
 | [] => ⟨by simp [bI], fun g h => by simp at h⟩
 | (k, x) :: r => by
  obtain ⟨i1, i2⟩ := lW f v r
  rw [show bI f v ((k, x) :: r) = (if k = f then (k, v) :: r else (k, x) :: bI f v r) from rfl]
  by_cases hk : k = f
  ·rw [if_pos hk]
   subst hk
   exact ⟨by simp, fun g h => by simpa using h⟩
  ·rw [if_neg hk]
   refine ⟨?_, fun g h => ?_⟩
   ·rw [List.map_cons]
    exact List.mem_cons_of_mem _ i1
   ·rw [List.map_cons] at h ⊢
    rcases List.mem_cons.mp h with e | e
    ·exact List.mem_cons.mpr (.inl e)
    ·exact List.mem_cons_of_mem _ (i2 g e)
theorem dA (f : Str) (v : V) : ∀ fs : List (Str × V), (bI f v fs).length <= fs.length + 1
 | [] => by simp [bI]
 | (k, x) :: r => by
  have ih := dA f v r
  rw [show bI f v ((k, x) :: r) = (if k = f then (k, v) :: r else (k, x) :: bI f v r) from rfl]
  by_cases hk : k = f
  ·rw [if_pos hk, List.length_cons, List.length_cons]; omega
  ·rw [if_neg hk, List.length_cons, List.length_cons]; omega
theorem RelO.some_of {v : V} {o : Option Value} (r : RelO (some v) o) : ∃ u, o = some u /\ RelV v u := by
 cases o with
 | none => exact (show False from r).elim
 | some u => exact ⟨u, rfl, r⟩
theorem RelO.none_of {o : Option Value} (r : RelO none o) : o = none := by
 cases o with
 | none => rfl
 | some u => exact (show False from r).elim
theorem handed_of {v : V} {u : Value} (r : RelV v u) : PySem.W.handedIn u = true := by
 cases v with
 | non => cases (show u = Value.none from r); rfl
 | bl b => cases (show u = Value.bool b from r); rfl
 | int i => obtain ⟨t, e⟩ := (show ∃ t, u = Value.int i t from r); cases e; rfl
 | str x => obtain ⟨t, e⟩ := (show ∃ t, u = Value.str x t from r); cases e; rfl
 | byt b => obtain ⟨t, e⟩ := (show ∃ t, u = Value.bytes b t from r); cases e; rfl
 | flt b => obtain ⟨t, e⟩ := (show ∃ t, u = Value.float b t from r); cases e; rfl
 | ref a => cases (show u = Value.ref a from r); rfl
 | ty n => cases (show u = Value.type n from r); rfl
section
variable {P : Program} {w : World} {H H' : Hp} {h h' : Heap} {a C dx : Addr} {fs fs' : List (Str × V)}
theorem pL (hok : HOk P w H h) (e : H a = some (.ins C dx fs)) : ∃ mA, ObjM h a dx C mA /\ (∀ f, RelO (fs.lookup f) (mA f)) /\ PySem.Within mA (fs.map (·.1)) /\ fs.length <= 1000 /\ H dx = some (.own a) := by
 obtain ⟨d, z, ne, ob, mA, n, r, q⟩ := (show ObjOk P w H h a (.ins C dx fs) from hok a _ e)
 exact ⟨mA, ⟨ob, n, ne⟩, r, q, z, d⟩
end
structure Cls (K : PySem.W.Frag) (C : Addr) : Prop where
 pg : PySem.W.plainGet K C Str.empty = true
 hd : PySem.W.hasDictIn K C = true
 po : PySem.W.plainOver K C = true
 sa : PySem.W.findIn K (.ref C) "__setattr__" = some (some (.builtin "object.__setattr__"))
theorem Cls.get {K : PySem.W.Frag} {C : Addr} (c : Cls K C) (f : Str) : PySem.W.plainGet K C f = true := c.pg
def NoAttr (K : PySem.W.Frag) (C : Addr) (f : Str) : Prop := PySem.W.findIn K (.ref C) f = some none
theorem NoAttr.taker {K : PySem.W.Frag} {C : Addr} {f : Str} (n : NoAttr K C f) : PySem.W.takerIn K C f = some none := by
 unfold PySem.W.takerIn
 rw [show PySem.W.findIn K (.ref C) f = some none from n]
 rfl
structure Meth (K : PySem.W.Frag) (C : Addr) (m : Str) (f : Addr) : Prop where
 at_ : PySem.W.findIn K (.ref C) m = some (some (.ref f))
 fn : PySem.W.isFn K (.ref f) = true
 kp : PySem.W.keepIn K (.ref f) = true
section
variable {X : Cx} {pins : List (Addr × Obj)} {σ : St} {H : Hp} {s : Shared} {a C dx : Addr} {fs : List (Str × V)} {f : Str} {v : V} {A : Around} {E : Value -> Shared -> Prop}
theorem getattr_ok {b : Bool} {Q : Value -> Shared -> Prop} (I : Inv X pins σ H s) (e : H a = some (.ins C dx fs)) (c : Cls X.K C) (n : NoAttr X.K C f) (l : fs.lookup f = some v)
  (h : ∀ u s', Inv X pins σ H s' -> RelV v u -> Q u s') : wpAny (model X.prog X.w) A (getAttr (.ref a) f b) Q E s := by
 obtain ⟨mA, O, r, _, _, _⟩ := pL I.hok e
 obtain ⟨u, hu, ru⟩ := RelO.some_of (v := v) (o := mA f) (by rw [<- l]; exact r f)
 exact get_map I.kIn O (c.get f) c.hd n hu (handed_of ru) (h u _ (I.tok _) ru)
theorem oS {m : Str} {g : Addr} {pl : Sem Bool} {Q : Value × List Value -> Shared -> Prop} (I : Inv X pins σ H s) (e : H a = some (.ins C dx fs)) (c : Cls X.K C) (k : Meth X.K C m g) (l : fs.lookup m = none)
  (h : Q (.ref g, [.ref a]) s) : wpAny (model X.prog X.w) A (getMethod (.ref a) m pl) Q E s := by
 obtain ⟨mA, O, r, _, _, _⟩ := pL I.hok e
 have hn : mA m = none := RelO.none_of (by rw [<- l]; exact r m)
 exact get_meth I.kIn O (c.get m) k.at_ k.fn hn h
theorem setattr_ok {y : V} {u : Value} {Q : Unit -> Shared -> Prop} (I : Inv X pins σ H s) (e : H a = some (.ins C dx fs)) (c : Cls X.K C) (n : NoAttr X.K C f) (hl : fs.length < 1000) (ry : RelV y u)
  (h : ∀ s', Inv X pins σ (upd H a (.ins C dx (bI f y fs))) s' -> Q () s') : wpAny (model X.prog X.w) A (setAttr (.ref a) f u) Q E s := by
 obtain ⟨mA, O, r, wi, _, ho⟩ := pL I.hok e
 have hz : (fs.map (·.1)).length <= sizeLine := by rw [List.length_map, sizeLine_eq]; omega
 refine set_map I.kIn O c.sa c.po n.taker c.hd wi hz fun h' O' sb => h _ ?_
 have hd : ∃ o, h'.get? dx = some o := let ⟨o, _, _, e', _⟩ := O'.ns; ⟨o, e'⟩
 refine I.write (x := a) (e := dx) (by rw [e]; exact True.intro) (.inr ho) (fun b q hb z => (sb.2 b hb).trans z) hd ?_
 refine ⟨by rw [aQ O.ne]; exact ho, ?_, O.ne, O'.obj, _, O'.ns, fun g => ?_, fun g hg => ?_⟩
 ·have := dA f y fs; omega
 ·show RelO ((bI f y fs).lookup g) (if g = f then some u else mA g)
  rw [aT]
  by_cases q : g = f
  ·rw [if_pos q, if_pos q]; exact ry
  ·rw [if_neg q, if_neg q]; exact r g
 ·by_cases q : g = f
  ·rw [q]; exact (lW f y fs).1
  ·refine (lW f y fs).2 g (wi g fun z => hg ?_)
   show (if g = f then some u else mA g) = none
   rw [if_neg q]; exact z
theorem Inv.made (I : Inv X pins σ H s) : Inv X pins σ (upd (upd H s.heap.objs.size (.own (s.heap.objs.size + 1))) (s.heap.objs.size + 1) (.ins C s.heap.objs.size []))
  { s with heap := (s.heap.push PySem.W.emptyDict).push (PySem.W.instObj C s.heap.objs.size) } := by
 have e1 : (s.heap.push PySem.W.emptyDict).get? s.heap.objs.size = some PySem.W.emptyDict := Heap.get?_push_size s.heap rfl
 have e2 : ((s.heap.push PySem.W.emptyDict).push (PySem.W.instObj C s.heap.objs.size)).get? (s.heap.objs.size + 1) = some (PySem.W.instObj C s.heap.objs.size) := by
  have := Heap.get?_push_size (s.heap.push PySem.W.emptyDict) (o := PySem.W.instObj C s.heap.objs.size) rfl
  rwa [Heap.size_push] at this
 have e3 : (s.heap.push PySem.W.emptyDict).Ns s.heap.objs.size (fun _ => none) := ⟨PySem.W.emptyDict, #[], _, e1, rfl, (fun e he => absurd he (by simp)), fun _ => rfl⟩
 have I1 := I.laid (a := s.heap.objs.size) (o := .own (s.heap.objs.size + 1)) (h' := s.heap.push PySem.W.emptyDict) (t' := s.toks) (fun b u q => Heap.get?_push_of_some _ q) (Nat.le_refl _) ⟨_, e1⟩
 refine I1.laid (a := s.heap.objs.size + 1) (o := .ins C s.heap.objs.size []) (t' := s.toks) (fun b u q => Heap.get?_push_of_some _ q) (Nat.le_of_eq (Heap.size_push _ _)) ?_
 have ne : s.heap.objs.size ≠ s.heap.objs.size + 1 := Nat.ne_of_lt (Nat.lt_succ_self _)
 refine ⟨by rw [aQ ne, aC], Nat.zero_le _, ne, e2, fun _ => none, (Heap.Ns1.of_empty e3).at fun o q => Heap.get?_push_of_some _ q, fun _ => True.intro, fun y hy => absurd rfl hy⟩
theorem attr_of {prog : Program} {w : World} {env : Env} {e : Expr} {f : Str} {pos : Pos} {s : Shared} {Q : Value -> Shared -> Prop} (hb : attributeBase e f env (eval e env) = eval e env)
  (h : wpAny (model prog w) A (eval e env) (fun o s₁ => wpAny (model prog w) A (getAttr o f true) Q E s₁) E s) : wpAny (model prog w) A (eval (.Attribute e f pos) env) Q E s :=
 Attribute_any_ h (by rw [arm_eval_Attribute, hb])
end
def tFld (K : PySem.W.Frag) (ta : TE) (f : Str) : TE := fun σ H Q => ta σ H fun x H1 => ∃ a C dx fs v, x = .ref a /\ H1 a = some (.ins C dx fs) /\ Cls K C /\ NoAttr K C f /\ fs.lookup f = some v /\ Q v H1
def sFld (K : PySem.W.Frag) (ta tv : TE) (f : Str) : TS := fun D σ H => tv σ H fun y H1 => ta σ H1 fun x H2 => ∃ a C dx fs, x = .ref a /\ H2 a = some (.ins C dx fs) /\ Cls K C /\ NoAttr K C f /\ fs.length < 1000 /\
 D.nx σ (upd H2 a (.ins C dx (bI f y fs)))
section
variable {X : Cx} {o e value : Expr} {f : Str} {pos pos' tpos : Pos} {ta tv : TE}
theorem cS (he : PE X e ta) (hb : attributeBase e f X.env (eval e X.env) = eval e X.env) : PE X (.Attribute e f pos) (tFld X.K ta f) := by
 intro pins s σ H Q I h
 refine attr_of hb (thn (he pins s σ H _ I h) fun u s1 ⟨x, H1, I1, rx, a, C, dx, fs, v, ex, ea, c, n, l, q⟩ => ?_)
 subst ex
 obtain rfl : u = Value.ref a := rx
 exact getattr_ok I1 ea c n l fun u' s2 I2 ru => ⟨v, H1, I2, ru, q⟩
theorem fM (ha : PE X o ta) (hv : PE X value tv) (hs : swapsWith value (some (.Attribute o f pos')) pos.line X.env = pure false) : PS X (.Assign [.Attribute o f pos'] value pos) (sFld X.K ta tv f) := by
 intro pins s σ H D I h
 refine plainObj_wpAny_Assign_Attribute (thn (hv pins s σ H _ I h) fun u s1 ⟨y, H1, I1, ry, q⟩ => thn (ha pins s1 σ H1 _ I1 q) fun ov s2 ⟨x, H2, I2, rx, a, C, dx, fs, ex, ea, c, n, l, q2⟩ => ?_) hs
 subst ex
 obtain rfl : ov = Value.ref a := rx
 exact setattr_ok I2 ea c n l ry fun s3 I3 => ⟨σ, _, I3, q2⟩
end
end L2
namespace L2
open PySem PySem.Spec PyProof.Rows
structure Room (k : Nat) (A : Around) : Prop where
 hd : A.handled = none
 dp : A.depth + 3 * k + 5 < recursionLimit
 un : A.units + 16 * k + 200 < cLine
theorem Room.mono {j k : Nat} {A : Around} (r : Room k A) (h : j <= k) : Room j A := ⟨r.hd, by have := r.dp; omega, by have := r.un; omega⟩
theorem Room.deeper {k : Nat} {A : Around} (r : Room (k + 1) A) (env : Env) : Room k (A.deeper env) :=
 ⟨r.hd, by have := r.dp; show A.depth + 1 + 3 * k + 5 < _; omega, by have := r.un; show A.units + 3 + 16 * k + 200 < _; omega⟩
theorem make_depth {A : Around} {C : Addr} {us : List Value} {kw : List (Str × Value)} : (A.under (.builtin "type.__call__" ⟨.ref C :: us, kw⟩)).depth = A.depth + 1 := by
 first | rfl | simp [Around.under, Code.weight, Code.isCreation, Code.isGuard, Code.isCaller, Code.frames, Code.isFrame, guardIds]
theorem make_units {A : Around} {C : Addr} {us : List Value} {kw : List (Str × Value)} : (A.under (.builtin "type.__call__" ⟨.ref C :: us, kw⟩)).units = A.units + 1 := by
 first | rfl | simp [Around.under, Code.cUnits, Code.frames, Code.isFrame]
theorem Room.make {k : Nat} {A : Around} (r : Room (k + 1) A) (C : Addr) (us : List Value) (kw : List (Str × Value)) : Room k (A.under (.builtin "type.__call__" ⟨.ref C :: us, kw⟩)) :=
 ⟨r.hd, by have := r.dp; rw [make_depth]; omega, by have := r.un; rw [make_units]; omega⟩
theorem Room.depth {k : Nat} {A : Around} (r : Room k A) : A.depth < recursionLimit := by have := r.dp; omega
theorem Room.units {k : Nat} {A : Around} (r : Room k A) : A.units + 64 < cLine := by have := r.un; omega
def tNil : TA := fun _ H Q => Q [] H
def tCons (ta : TE) (tr : TA) : TA := fun σ H Q => ta σ H fun x H1 => tr σ H1 fun xs H2 => Q (x :: xs) H2
section
variable {X : Cx} {e : Expr} {es : List Expr} {te : TE} {t : TA} {pos : Pos}
theorem aB : PA X [] tNil := fun _ _ _ _ H Q I h => Calls.spliced_nil ⟨[], H, I, .nil, h⟩
theorem aA (ha : PE X e te) (hr : PA X es t) (hs : starEach (e :: es) X.env = (false, eval e X.env) :: starEach es X.env := by rfl) : PA X (e :: es) (tCons te t) := by
 intro pos pins s σ H Q I h
 rw [hs]
 show wpAny _ _ (spliced ((false, eval e X.env) :: backTo pos (starEach es X.env))) _ _ s
 refine Calls.spliced_cons (thn (ha pins s σ H _ I h) fun u s1 ⟨x, H1, I1, r1, q1⟩ => ?_)
 exact thn (hr pos pins s1 σ H1 _ I1 q1) fun us s2 ⟨xs, H2, I2, r2, q2⟩ => ⟨x :: xs, H2, I2, .cons r1 r2, q2⟩
def tTup (t : TA) : TE := fun σ H Q => t σ H fun xs H1 => xs.length <= sizeLine /\ ∀ p, H1 p = none -> Q (.ref p) (upd H1 p (.tup xs))
def tLst (t : TA) : TE := fun σ H Q => t σ H fun xs H1 => xs.length <= sizeLine /\ ∀ p, H1 p = none -> Q (.ref p) (upd H1 p (.lst xs))
theorem eC {x1} (h : PA X es t) : PE X (.Tuple es x1 pos) (tTup t) := by
 intro pins s σ H Q I hq
 refine wpAny_Tuple_spliced (thn (h pos pins s σ H _ I hq) fun us s1 ⟨xs, H1, I1, r, z, q⟩ => ⟨by rw [<- r.length]; exact z, ?_⟩)
 have hf : H1 s1.heap.objs.size = none := I1.hok.fresh (Nat.le_refl _)
 refine ⟨.ref s1.heap.objs.size, upd H1 s1.heap.objs.size (.tup xs), I1.laid (t' := s1.toks) (fun b u e => Heap.get?_push_of_some _ e) (Nat.le_refl _) ?_, rfl, q _ hf⟩
 exact ⟨z, us, r, ⟨_, Heap.get?_push_size _ rfl, rfl, _, rfl⟩⟩
theorem bO (h : PA X es t) : PE X (.List es pos) (tLst t) := by
 intro pins s σ H Q I hq
 refine wpAny_List_spliced (thn (h pos pins s σ H _ I hq) fun us s1 ⟨xs, H1, I1, r, z, q⟩ => ⟨by rw [<- r.length]; exact z, ?_⟩)
 have hf : H1 s1.heap.objs.size = none := I1.hok.fresh (Nat.le_refl _)
 refine ⟨.ref s1.heap.objs.size, upd H1 s1.heap.objs.size (.lst xs), I1.laid (t' := s1.toks) (fun b u e => Heap.get?_push_of_some _ e) (Nat.le_refl _) ?_, rfl, q _ hf⟩
 exact ⟨z, us, 0, r, Heap.get?_push_size _ rfl⟩
end
abbrev Sp := List V -> Hp -> VK -> XK -> Prop
abbrev CXT := List Env -> Hp -> Shared -> XK -> Value -> Shared -> Prop
structure Env0 (P : Program) (w : World) (K : PySem.W.Frag) (mg : Str -> Option Value) (base : Heap) (A : Around) (outer : List Env) (s : Shared) (H : Hp) : Prop where
 frames : A.frames = some outer
 mod : Mod K mg base
 bs : ∀ b o, base.get? b = some o -> s.heap.get? b = some o /\ H b = none
 bsz : base.objs.size <= s.heap.objs.size
 funs : s.heap.FunFrames base outer
 frf : ∀ b ∈ frs outer, H b = none
 hok : HOk P w H s.heap
 bare : AllBare s.gens
def CE (outer : List Env) (P : Program) (w : World) (H : Hp) (s : Shared) (Q : VK) (u : Value) (s' : Shared) : Prop :=
 ∃ v H', s'.os = s.os /\ AllBare s'.gens /\ Un (frs outer) [] H H' s.heap s'.heap /\ HOk P w H' s'.heap /\ RelV v u /\ Q v H'
def CR (CX : CXT) (outer : List Env) (P : Program) (w : World) (H : Hp) (s : Shared) (Q : VK) (E : XK) (r : Result) (s' : Shared) : Prop :=
 match r with
 | .ok (.ret u) => CE outer P w H s Q u s'
 | .ok _ => False
 | .error e => CX outer H s E e s'
structure FnOk (P : Program) (w : World) (K : PySem.W.Frag) (mg : Str -> Option Value) (base : Heap) (CX : CXT) (k : Nat) (f : Addr) (fd : FuncData) (ps : List Str) (sp : Sp) : Prop where
 len : ∀ vs H Q E, sp vs H Q E -> vs.length = ps.length
 run : ∀ (A : Around) (outer : List Env) (s : Shared) (H : Hp) (args : Args) (us : List Value) (vs : List V) (Q : VK) (E : XK), Room k A -> Env0 P w K mg base A outer s H -> BindsTo s fd args (ps.zip us) -> Vals vs us -> sp vs H Q E ->
  codeAny (model P w) A (.call (.ref f) args) (CR CX outer P w H s Q E) s
theorem FnOk.imp {P : Program} {w : World} {K : PySem.W.Frag} {mg : Str -> Option Value} {base : Heap} {CX : CXT} {k : Nat} {f : Addr} {fd : FuncData} {ps : List Str} {sp sp' : Sp} (F : FnOk P w K mg base CX k f fd ps sp)
  (h : ∀ vs H Q E, sp' vs H Q E -> sp vs H Q E) : FnOk P w K mg base CX k f fd ps sp' :=
 ⟨fun vs H Q E q => F.len vs H Q E (h _ _ _ _ q), fun A outer s H args us vs Q E hr he hb hv hs => F.run A outer s H args us vs Q E hr he hb hv (h _ _ _ _ hs)⟩
theorem Env0.make {P : Program} {w : World} {K : PySem.W.Frag} {mg : Str -> Option Value} {base : Heap} {A : Around} {outer : List Env} {s : Shared} {H : Hp} (e : Env0 P w K mg base A outer s H) (C : Addr) (us : List Value) (kw : List (Str × Value)) :
  Env0 P w K mg base (A.under (.builtin "type.__call__" ⟨.ref C :: us, kw⟩)) outer s H := ⟨by first | exact e.frames | (simpa [Around.under, Code.envs, Code.isFrame, pushEnvs] using e.frames), e.mod, e.bs, e.bsz, e.funs, e.frf, e.hok, e.bare⟩
section
variable {X : Cx} {pins : List (Addr × Obj)} {σ : St} {H : Hp} {s s' : Shared}
theorem Inv.env0 (I : Inv X pins σ H s) : Env0 X.prog X.w X.K X.mg X.base X.A X.stack s H :=
 ⟨I.ok.frames, I.ok.mod, I.bs, Nat.le_trans I.ok.bsz I.sz, I.stack, I.stkFree, I.hok, I.bare⟩
theorem Inv.after {Q : VK} {u : Value} (I : Inv X pins σ H s) (h : CE X.stack X.prog X.w H s Q u s') : EP X pins σ Q u s' := by
 obtain ⟨v, H', os, bare, un, hok, r, q⟩ := h
 obtain ⟨hh, g, d, t, os'⟩ := s'
 obtain rfl : os' = s.os := os
 exact ⟨v, H', I.call (h' := hh) (g' := g) (d' := d) (t' := t) (ch := []) un hok bare (fun b z => absurd z (by simp)), r, q⟩
end
def tCall (sp : Sp) (dvs : List V) (E : XK) (t : TA) : TE := fun σ H Q => t σ H fun vs H1 => sp (vs ++ dvs) H1 Q E
def Binds (K : PySem.W.Frag) (fd : FuncData) (ps : List Str) (ds : List Value) : Prop :=
 ∀ (s : Shared) (us : List Value), K.In s.heap -> (us ++ ds).length = ps.length -> BindsTo s fd ⟨us, []⟩ (ps.zip (us ++ ds))
theorem Binds.all {K : PySem.W.Frag} {fd : FuncData} {ps : List Str} (h : ∀ us : List Value, us.length = ps.length -> bindArgs fd ⟨us, []⟩ = pure (ps.zip us)) : Binds K fd ps [] := fun s us _ hl => by
 rw [List.append_nil] at hl ⊢
 exact .of_eq (h us hl)
def oY (CX : CXT) (X : Cx) (E : XK) : Prop := ∀ (pins : List (Addr × Obj)) (σ : St) (H : Hp) (s : Shared) (e : Value) (s' : Shared), Inv X pins σ H s -> CX X.stack H s E e s' -> X.xe e s'
section
variable {X : Cx} {CX : CXT} {k : Nat} {f C : Addr} {fd : FuncData} {ps : List Str} {sp : Sp} {dvs : List V} {ds : List Value} {E : XK} {x m : Str} {p pos apos : Pos} {e o : Expr} {es : List Expr} {ta : TE} {t : TA}
theorem run_fn {pins : List (Addr × Obj)} {σ : St} {H : Hp} {s : Shared} {Q : VK} {us : List Value} {vs : List V} (F : FnOk X.prog X.w X.K X.mg X.base CX k f fd ps sp) (hr : Room k X.A) (hb : Binds X.K fd ps ds) (hd : Vals dvs ds) (hx : oY CX X E)
  (I : Inv X pins σ H s) (r : Vals vs us) (h : sp (vs ++ dvs) H Q E) : wpAny (model X.prog X.w) X.A (call (.ref f) us) (EP X pins σ Q) X.xe s := by
 have r2 : Vals (vs ++ dvs) (us ++ ds) := r.append hd
 have hl : (us ++ ds).length = ps.length := by rw [<- r2.length]; exact F.len _ _ _ _ h
 refine wpAny_call (codeAny_mono (F.run X.A X.stack s H ⟨us, []⟩ (us ++ ds) (vs ++ dvs) Q E hr I.env0 (hb s us I.kIn hl) r2 h) fun r s' hq => ?_)
 cases r with
 | error e => exact hx pins σ H s e s' I hq
 | ok fl =>
  cases fl with
  | ret u => exact I.after hq
  | next => exact False.elim hq
  | brk => exact False.elim hq
  | cont => exact False.elim hq
theorem pe_call (F : FnOk X.prog X.w X.K X.mg X.base CX k f fd ps sp) (hr : Room k X.A) (hg : Gl X x) (hm : X.mg x = some (.ref f)) (hk : PySem.W.keepIn X.K (.ref f) = true) (hb : Binds X.K fd ps ds) (hd : Vals dvs ds) (hx : oY CX X E)
  (ha : PA X (e :: es) t) (hdb : (x == ("__debug__" : Str)) = false := by decide) (he : starEach (e :: es) X.env = (false, eval e X.env) :: starEach es X.env := by rfl) (hpl : (backTo pos (starEach es X.env)).any (·.1) = false := by rfl) :
  PE X (.Call (.Name x p) (e :: es) [] pos) (tCall sp dvs E t) := by
 intro pins s σ H Q I h
 refine wpAny_Call_Name_kw (iZ I hg hm ?_ hdb)
 refine PySem.W.callWith_K (h₀ := X.base) I.ok.mod.kin hk (thn (ha pos pins s σ H _ I h) fun us s1 ⟨vs, H1, I1, r, q⟩ => ⟨I1.kIn, ?_⟩) he hpl
 exact run_fn F hr hb hd hx I1 r q
structure Mk (K : PySem.W.Frag) (C f : Addr) : Prop where
 makes : PySem.W.makesIn K C = true
 init : PySem.W.findIn K (.ref C) "__init__" = some (some (.ref f))
 fn : PySem.W.isFn K (.ref f) = true
 kp : PySem.W.keepIn K (.ref C) = true
end
structure FnScope (N P : List Str) (sc : Scope) : Prop where
 kind : sc.kind = .function
 co : sc.isCoroutine = false
 gen : sc.isGenerator = false
 nd : N.Nodup
 pre : N.take P.length = P
 par : ∀ x ∈ P, sc.names.lookup x = some .local \/ sc.names.lookup x = some .cell
 nofree : ∀ y ∈ sc.names, y.2 ≠ .free
theorem bindL_out {kindOf : Str -> Option NameKind} {x : Str} : ∀ {binds : List (Str × Value)} {m : Str -> Option Value}, (∀ v, (x, v) ∉ binds) -> bindL kindOf binds m x = m x
 | [], _, _ => rfl
 | (n, v) :: r, m, h => by
  unfold bindL
  rw [bindL_out fun w hw => h w (List.mem_cons_of_mem _ hw)]
  split
  ·have : x ≠ n := by rintro rfl; exact h v List.mem_cons_self
   simp [this]
  ·rfl
theorem bindC_out {kindOf : Str -> Option NameKind} {x : Str} : ∀ {binds : List (Str × Value)} {m : Str -> Option Value}, (∀ v, (x, v) ∉ binds) -> bindC kindOf binds m x = m x
 | [], _, _ => rfl
 | (n, v) :: r, m, h => by
  unfold bindC
  rw [bindC_out fun w hw => h w (List.mem_cons_of_mem _ hw)]
  split
  ·rfl
  ·have : x ≠ n := by rintro rfl; exact h v List.mem_cons_self
   simp [this]
theorem bindL_get {kindOf : Str -> Option NameKind} {x : Str} {v : Value} : ∀ {P : List Str} {vs : List Value} {i : Nat} {m : Str -> Option Value}, P.Nodup -> P[i]? = some x -> vs[i]? = some v -> kindOf x = some .local ->
  bindL kindOf (P.zip vs) m x = some v
 | [], _, _, _, _, h, _, _ => by simp at h
 | _ :: _, [], _, _, _, _, h, _ => by simp at h
 | p :: P, w :: vs, 0, m, nd, h1, h2, hk => by
  simp at h1 h2; subst h1; subst h2
  show bindL kindOf ((p, w) :: P.zip vs) m p = _
  unfold bindL
  rw [bindL_out fun v hv => (List.nodup_cons.mp nd).1 (List.of_mem_zip hv).1, if_pos hk]
  simp
 | p :: P, w :: vs, i + 1, m, nd, h1, h2, hk => by
  show bindL kindOf ((p, w) :: P.zip vs) m x = _
  unfold bindL
  exact bindL_get (i := i) (List.nodup_cons.mp nd).2 (by simpa using h1) (by simpa using h2) hk
theorem bindC_get {kindOf : Str -> Option NameKind} {x : Str} {v : Value} : ∀ {P : List Str} {vs : List Value} {i : Nat} {m : Str -> Option Value}, P.Nodup -> P[i]? = some x -> vs[i]? = some v -> kindOf x ≠ some .local ->
  bindC kindOf (P.zip vs) m x = some v
 | [], _, _, _, _, h, _, _ => by simp at h
 | _ :: _, [], _, _, _, _, h, _ => by simp at h
 | p :: P, w :: vs, 0, m, nd, h1, h2, hk => by
  simp at h1 h2; subst h1; subst h2
  show bindC kindOf ((p, w) :: P.zip vs) m p = _
  unfold bindC
  rw [bindC_out fun v hv => (List.nodup_cons.mp nd).1 (List.of_mem_zip hv).1, if_neg hk]
  simp
 | p :: P, w :: vs, i + 1, m, nd, h1, h2, hk => by
  show bindC kindOf ((p, w) :: P.zip vs) m x = _
  unfold bindC
  exact bindC_get (i := i) (List.nodup_cons.mp nd).2 (by simpa using h1) (by simpa using h2) hk
def iM (N : List Str) (vs : List V) : St := vs.map some ++ List.replicate (N.length - vs.length) none
def iK (CX : CXT) (P : Program) (w : World) (K : PySem.W.Frag) (mg : Str -> Option Value) (base : Heap) (N : List Str) (qual : Str) (scope : Scope) (f : Addr) (cd : Value) (A : Around) (outer : List Env) (s : Shared) (H : Hp) (E : XK) : Cx where
 prog := P
 w := w
 K := K
 mg := mg
 base := base
 A := A.deeper (envOfC qual scope s.heap.objs.size f cd)
 N := N
 s₀ := s
 H₀ := H
 env := envOfC qual scope s.heap.objs.size f cd
 outer := outer
 stack := envOfC qual scope s.heap.objs.size f cd :: outer
 ex := []
 calm := true
 fn := fun _ => true
 pn := []
 xe := fun e s' => wpAny (model P w) (A.deeper (envOfC qual scope s.heap.objs.size f cd)) («leaving» (envOfC qual scope s.heap.objs.size f cd) e) (fun _ s'' => CX outer H s E e s'') (fun e' s'' => CX outer H s E e' s'') s'
theorem cell_has {sc : Scope} {n : Nat} {x : Str} (h : sc.names.lookup x = some .cell) : ∃ c, (cellsFrom n sc.names []).lookup x = some c := by
 have q := PySem.W.cellsFrom_some sc.names n [] (.inl h)
 exact Option.isSome_iff_exists.mp q
theorem inv_start {CX : CXT} {P : Program} {w : World} {K : PySem.W.Frag} {mg : Str -> Option Value} {base : Heap} {N ps : List Str} {qual : Str} {scope : Scope} {f : Addr} {cd : Value} {A : Around} {outer : List Env} {s s1 : Shared} {H : Hp} {E : XK} {us : List Value} {vs : List V}
  (S : FnScope N ps scope) (hd : A.handled = none) (e0 : Env0 P w K mg base A outer s H) (hl : vs.length = ps.length) (r : Vals vs us)
  (x : InCallC s s.heap.objs.size (bindL (envOfC qual scope s.heap.objs.size f cd).kindOf (ps.zip us) fun _ => none) (cellsFrom (s.heap.objs.size + 1) scope.names []) (bindC (envOfC qual scope s.heap.objs.size f cd).kindOf (ps.zip us) fun _ => none) s1) :
  Inv (iK CX P w K mg base N qual scope f cd A outer s H E) [] (iM N vs) H s1 := by
 have hpl : ps.length <= N.length := by have := congrArg List.length S.pre; rw [List.length_take] at this; omega
 obtain ⟨h1, tk, rfl, hk⟩ := x.done
 have noA : ∀ b : Addr, b ∉ (iK CX P w K mg base N qual scope f cd A outer s H E).ex := fun b z => absurd (show b ∈ ([] : List Addr) from z) (by simp)
 refine ⟨⟨e0.mod, S.kind, rfl, rfl, Nat.le_refl _, fun y z c h1 h2 => ?_, fun y hy => ?_, fun y c _ h => ?_, fun _ => hd, Around.frames_deeper e0.frames, .inr ⟨rfl, rfl⟩, fun b z => absurd z (noA b), e0.bs, e0.bsz, fun b _ _ => noA b, fun b z => absurd z (noA b), e0.funs, e0.frf⟩,
  rfl, e0.bare, Un.kept hk, ⟨_, x.toInCall.ns, fun i y v h1 h2 h3 => ?_⟩, fun y c h => ⟨_, x.cell y c h⟩, e0.hok.fresh (Nat.le_refl _), fun y c h => ?_, fun p hp => absurd (show p ∈ ([] : List (Addr × Obj)) from hp) (by simp), e0.hok.kept hk, ?_⟩
 ·exact name_of_addr x.apart (PySem.mem_of_lookup h1) (PySem.mem_of_lookup h2)
 ·have hy : scope.names.lookup y = some .cell \/ scope.names.lookup y = some .free := hy
  rcases hy with hy | hy
  ·exact cell_has hy
  ·exact absurd rfl (S.nofree _ (PySem.mem_of_lookup hy))
 ·exact Nat.le_of_lt (x.above y c (PySem.mem_of_lookup h))
 ·have hi : i < vs.length := by
   unfold iM at h2
   by_cases hi : i < vs.length
   ·exact hi
   ·rw [List.getElem?_append_right (by simpa using hi)] at h2
    rw [List.getElem?_replicate] at h2
    split at h2 <;> cases h2
  have ha : vs[i]? = some v := by
   unfold iM at h2
   rw [List.getElem?_append_left (by simpa using hi), List.getElem?_map] at h2
   cases e : vs[i]? with
   | none => rw [e] at h2; cases h2
   | some a => rw [e] at h2; cases h2; rfl
  obtain ⟨u, hu, rv⟩ := r.get ha
  have hp : ps[i]? = some y := by
   rw [<- S.pre, List.getElem?_take_of_lt (by omega)]; exact h1
  have ndP : ps.Nodup := by rw [<- S.pre]; exact S.nd.sublist (List.take_sublist _ _)
  refine ⟨u, rv, ?_⟩
  rcases S.par y (List.mem_of_getElem? hp) with k | k
  ·exact .inl ⟨k, bindL_get ndP hp hu k⟩
  ·obtain ⟨c, e⟩ := cell_has (n := s.heap.objs.size + 1) k
   refine .inr ⟨.inl k, c, e, ?_⟩
   have q := x.cell y c e
   rw [bindC_get ndP hp hu (by show scope.names.lookup y ≠ _; rw [k]; decide)] at q
   exact q
 ·exact e0.hok.fresh (Nat.le_of_lt (x.above y c (PySem.mem_of_lookup h)))
 ·unfold iM
  show _ = N.length
  rw [List.length_append, List.length_map, List.length_replicate]
  omega
theorem fn_of {CX : CXT} {P : Program} {w : World} {K : PySem.W.Frag} {mg : Str -> Option Value} {base : Heap} {k : Nat} {f : Addr} {name qual : Str} {params : Arguments} {body : List Stmt} {scope : Scope} {dV kV doc pm cdv ct oc : Value} {an od : Option Addr}
  {osl : Array (Option Value)} {N ps : List Str} {sp : Sp} (lk : K.lookup f = some ⟨oc, od, .func (PySem.W.fnOf name qual params body scope dV kV doc pm an cdv ct), osl⟩) (hcd : PySem.W.codeIn K cdv qual = true) (S : FnScope N ps scope)
  (len : ∀ vs H Q E, sp vs H Q E -> vs.length = ps.length)
  (hbody : ∀ (A : Around) (outer : List Env) (s : Shared) (H : Hp) (vs : List V) (Q : VK) (E : XK), Room k (A.deeper (envOfC qual scope s.heap.objs.size f cdv)) -> sp vs H Q E ->
   ∃ t, PSs (iK CX P w K mg base N qual scope f cdv A outer s H E) body t /\ t { nx := fun _ H' => Q .non H', rt := Q } (iM N vs) H) :
  FnOk P w K mg base CX (k + 1) f (PySem.W.fnOf name qual params body scope dV kV doc pm an cdv ct) ps sp := by
 refine ⟨len, fun A outer s H args us vs Q E hr e0 hb r hsp => ?_⟩
 have hl := len _ _ _ _ hsp
 have KX : K.In s.heap := e0.mod.kin.keeps fun b o e => (e0.bs b o e).1
 have lim : s.heap.NoLimit := e0.mod.nolimit.keeps fun b o e => (e0.bs b o e).1
 have hkind : ∀ y ∈ ps.zip us, scope.names.lookup y.1 = some .local \/ (scope.names.lookup y.1 = some .cell /\ ((cellsFrom (s.heap.objs.size + 1) scope.names []).lookup y.1).isSome = true) := fun ⟨n, v⟩ hy => by
  rcases S.par n (List.of_mem_zip hy).1 with q | q
  ·exact .inl q
  ·exact .inr ⟨q, PySem.W.cellsFrom_some _ _ _ (.inl q)⟩
 refine codeAny_call_function hr.depth (KX _ _ lk) rfl S.co S.gen rfl (PySem.W.codeRec_of KX hcd) (hb _ _ _ _ ?_)
 refine wpAny_newFunctionEnv_cells S.kind hkind fun env he s1 x => ?_
 subst he
 refine ⟨lim.keeps x.toInCall.keep, codeAny_func ?_⟩
 obtain ⟨t, ht, hq⟩ := hbody A outer s H vs Q E (hr.deeper _) hsp
 have I : Inv (iK CX P w K mg base N qual scope f cdv A outer s H E) [] (iM N vs) H s1 := inv_start S hr.hd e0 hl r x
 refine wpAny_mono (ht [] s1 (iM N vs) H _ I hq) (fun fl s' hs => ?_) fun e s' hs => hs
 have fin : ∀ {σ' : St} {H' : Hp} {v : V} {u : Value}, Inv (iK CX P w K mg base N qual scope f cdv A outer s H E) [] σ' H' s' -> RelV v u -> Q v H' -> CE outer P w H s Q u s' :=
  fun {σ' H' v u} J rv q => ⟨v, H', J.os, J.bare, J.base, J.hok, rv, q⟩
 cases fl with
 | ret u =>
  obtain ⟨v, σ', H', J, rv, q⟩ := hs
  exact fin J rv q
 | next =>
  obtain ⟨σ', H', J, q⟩ := hs
  exact fin (v := V.non) (u := Value.none) J rfl q
 | brk =>
  obtain ⟨_, _, _, q⟩ := hs
  exact False.elim q
 | cont =>
  obtain ⟨_, _, _, q⟩ := hs
  exact False.elim q
end L2
namespace L2
open PySem PySem.Spec PyProof.Rows
section
variable {X : Cx} {x : Str} {p pos : Pos} {e : Expr} {es : List Expr} {t : TA} {id T : String} {r : List V -> Hp -> VK -> Prop}
def tCB (r : List V -> Hp -> VK -> Prop) (t : TA) : TE := fun σ H Q => t σ H fun vs H1 => r vs H1 Q
theorem aY (hc : dX X (.builtin id) r) (hg : Gl X x) (hm : X.mg x = none) (hv : bootBuiltins x = some (.builtin id)) (ha : PA X (e :: es) t) (hn : x ≠ "__name__" := by decide) (hdb : (x == ("__debug__" : Str)) = false := by decide)
  (he : starEach (e :: es) X.env = (false, eval e X.env) :: starEach es X.env := by rfl) (hpl : (backTo pos (starEach es X.env)).any (·.1) = false := by rfl) : PE X (.Call (.Name x p) (e :: es) [] pos) (tCB r t) := by
 intro pins s σ H Q I h
 refine wpAny_Call_Name_kw (iD I hg hm hv ?_ hn hdb)
 exact PyProof.Rows.callWith_builtin1 (thn (ha pos pins s σ H _ I h) fun us s1 ⟨vs, H1, I1, r1, q1⟩ => hc pins s1 σ H1 vs us Q I1 r1 q1) he hpl
theorem bY (hc : dX X (.type T) r) (hg : Gl X x) (hm : X.mg x = none) (hv : bootBuiltins x = some (.type T)) (ha : PA X (e :: es) t) (hn : x ≠ "__name__" := by decide) (hdb : (x == ("__debug__" : Str)) = false := by decide)
  (he : starEach (e :: es) X.env = (false, eval e X.env) :: starEach es X.env := by rfl) (hpl : (backTo pos (starEach es X.env)).any (·.1) = false := by rfl) : PE X (.Call (.Name x p) (e :: es) [] pos) (tCB r t) := by
 intro pins s σ H Q I h
 refine wpAny_Call_Name_kw (iD I hg hm hv ?_ hn hdb)
 exact PyProof.Rows.callWith_type1 (thn (ha pos pins s σ H _ I h) fun us s1 ⟨vs, H1, I1, r1, q1⟩ => hc pins s1 σ H1 vs us Q I1 r1 q1) he hpl
end
end L2
namespace HT
open PySem PyProof.Rows
section
variable {prog : Program} {w : World} {A : Around} {E : Value -> Shared -> Prop} {s : Shared}
theorem cat_tup {t b : Addr} {vs ws : List Value} {Q : Value -> Shared -> Prop} (ht : IsTup s.heap t vs.toArray) (hb : IsTup s.heap b ws.toArray) (hv : vs ≠ [])
  (h1 : ws = [] -> Q (.ref t) s) (h2 : ws ≠ [] -> Q (.ref s.heap.objs.size) { s with heap := s.heap.push { cls := .type "tuple", data := .seq (vs ++ ws).toArray } })
  (hsz : vs.length + ws.length <= sizeLine) : wpAny (model prog w) A (binaryOp .Add (.ref t) (.ref b)) Q E s := by
 obtain ⟨⟨cls, dd, data, sl⟩, ho, hc, n, hd⟩ := id ht
 obtain ⟨⟨cls2, dd2, data2, sl2⟩, ho2, hc2, n2, hd2⟩ := id hb
 simp only at hc hd hc2 hd2
 subst hc hd hc2 hd2
 have e : vs.toArray ++ ws.toArray = (vs ++ ws).toArray := by simp
 by_cases hw : ws = []
 ·exact concat_meets ⟨_, ho, rfl⟩ ⟨_, ho2, rfl⟩ noFill_tuple_add seq_tuple_add PySem.F.slot_tuple_add PySem.F.entry_tuple_add (PySem.F.args_tuple_add_2 _ _)
   (tuple_addW1 t b vs.toArray ws.toArray n n2 dd dd2 sl sl2 (by simpa using hv) (by simp [hw])) ⟨ho, ho2, h1 hw⟩
 ·refine concat_meets ⟨_, ho, rfl⟩ ⟨_, ho2, rfl⟩ noFill_tuple_add seq_tuple_add PySem.F.slot_tuple_add PySem.F.entry_tuple_add (PySem.F.args_tuple_add_2 _ _)
   (tuple_addW2 t b vs.toArray ws.toArray n n2 dd dd2 sl sl2 (by simpa using hv) (by simpa using hw) (by rw [List.size_toArray, List.size_toArray]; exact hsz)) ⟨ho, ho2, ?_⟩
  rw [e]
  exact h2 hw
def sIx (n d : Nat) : Option Int -> Nat
 | none => d
 | some v => if v < 0 then (v + (n : Int)).toNat else min v.toNat n
theorem sIx_nat (n d k : Nat) : sIx n d (some (k : Int)) = min k n := by
 show (if (k : Int) < 0 then ((k : Int) + (n : Int)).toNat else min (k : Int).toNat n) = min k n
 rw [if_neg (by omega), Int.toNat_natCast]
end
end HT
namespace L2
open PySem PySem.Spec PyProof.Rows
abbrev TO := St -> Hp -> (Option Int -> Hp -> Prop) -> Prop
def PO (X : Cx) (e : Option Expr) (t : TO) : Prop :=
 ∀ (pins : List (Addr × Obj)) (s : Shared) (σ : St) (H : Hp) (Q : Option Int -> Hp -> Prop), Inv X pins σ H s -> t σ H Q ->
  wpAny (model X.prog X.w) X.A (evalPart e X.env) (fun u s' => ∃ o H', Inv X pins σ H' s' /\ IsPart u o /\ Q o H') X.xe s
def tNoPart : TO := fun _ H Q => Q none H
def tPart (t : TE) : TO := fun σ H Q => t σ H fun x H1 => ∃ i, x = .int i /\ Q (some i) H1
theorem eE {ns : List Int} : ∀ {us : List Value}, Vals (ns.map V.int) us -> IntsAre us ns := by
 induction ns with
 | nil => intro us r; rw [List.map_nil] at r; cases r; exact .nil
 | cons n ns ih =>
  intro us r
  rw [List.map_cons] at r
  cases r with
  | cons r1 r2 =>
   obtain ⟨t, e⟩ := r1
   subst e
   exact .cons n t (ih r2)
section
variable {X : Cx} {e : Expr} {te : TE} {lo hi : Option Expr} {tl th : TO} {pos p2 : Pos}
theorem fG : PO X none tNoPart := by
 intro pins s σ H Q I h
 rw [evalPart_none]
 exact wpAny_pure ⟨none, H, I, .none, h⟩
theorem eB (h : PE X e te) : PO X (some e) (tPart te) := by
 intro pins s σ H Q I hw
 rw [evalPart_some]
 refine thn (h pins s σ H _ I hw) fun u s1 ⟨x, H1, I1, r1, q1⟩ => ?_
 obtain ⟨i, rfl, q⟩ := q1
 obtain ⟨t, rfl⟩ := r1
 exact ⟨some i, H1, I1, .int i t, q⟩
def SlR (X : Cx) (r : V -> Option Int -> Option Int -> Hp -> VK -> Prop) : Prop :=
 ∀ (pins : List (Addr × Obj)) (s : Shared) (σ : St) (H : Hp) (x : V) (v vl vu : Value) (lo hi : Option Int) (sl : Addr) (Q : VK), Inv X pins σ H s -> RelV x v -> s.heap.IsSliceOf sl vl vu .none -> IsPart vl lo -> IsPart vu hi -> r x lo hi H Q ->
  ∃ T id, typeLookup (.type T) "__getitem__" = pure (some (.builtin id)) /\ s.TypeIs v T /\ wpAny (model X.prog X.w) X.A (getItem v (.ref sl)) (EP X pins σ Q) X.xe s
def tSl (r : V -> Option Int -> Option Int -> Hp -> VK -> Prop) (te : TE) (tl th : TO) : TE := fun σ H Q => te σ H fun x H1 => tl σ H1 fun l H2 => th σ H2 fun u H3 => r x l u H3 Q
theorem dZ {r : V -> Option Int -> Option Int -> Hp -> VK -> Prop} (hr : SlR X r) (he : PE X e te) (hl : PO X lo tl) (hu : PO X hi th) : PE X (.Subscript e (.Slice lo hi none p2) pos) (tSl r te tl th) := by
 intro pins s σ H Q I h
 refine Subscript_ (thn (he pins s σ H _ I h) fun v s1 ⟨x, H1, I1, r1, q1⟩ => ?_)
 refine wpAny_Slice (thn (hl pins s1 σ H1 _ I1 q1) fun vl s2 ⟨l, H2, I2, pl, q2⟩ => thn (hu pins s2 σ H2 _ I2 q2) fun vu s3 ⟨u, H3, I3, pu, q3⟩ => ?_)
 rw [evalPart_none]
 refine wpAny_pure ?_
 have I4 : Inv X pins σ H3 { s3 with heap := s3.heap.push { cls := .type "slice", data := .fields #[vl, vu, .none] } } := I3.kept (t' := s3.toks) fun b ob q => Heap.get?_push_of_some _ q
 obtain ⟨T, id, hT, ht, hg⟩ := hr pins { s3 with heap := s3.heap.push { cls := .type "slice", data := .fields #[vl, vu, .none] } } σ H3 x v vl vu l u s3.heap.objs.size Q I4 r1 (Heap.IsSliceOf.new ..) pl pu q3
 show wpAny (model X.prog X.w) X.A (subscriptTail e (.Slice lo hi none p2) v (.ref s3.heap.objs.size)) (EP X pins σ Q) X.xe { s3 with heap := s3.heap.push { cls := .type "slice", data := .fields #[vl, vu, .none] } }
 exact tail_any (ops := [.ref s3.heap.objs.size, v]) ht hT hg (by with_unfolding_all rfl)
def cP (xs : List V) (lo hi : Option Int) : List V := (xs.drop (HT.sIx xs.length 0 lo)).take (HT.sIx xs.length xs.length hi - HT.sIx xs.length 0 lo)
theorem cutV_length (xs : List V) (lo hi : Option Int) : (cP xs lo hi).length <= xs.length := by
 unfold cP
 rw [List.length_take, List.length_drop]
 omega
theorem Vals.nil_iff {xs : List V} {us : List Value} (r : Vals xs us) : us = [] ↔ xs = [] := by
 cases r with
 | nil => simp
 | cons _ _ => simp
end
end L2
namespace L2
open PySem PySem.Spec PyProof.Rows
def ixN (n : Nat) (i : Int) : Option Nat := if 0 <= i then (if i < n then some i.toNat else none) else if -(n : Int) <= i then some (i + n).toNat else none
def atI {α : Type} (xs : List α) (i : Int) : Option α := (ixN xs.length i).bind fun j => xs[j]?
theorem ixN_seq {n : Nat} {i : Int} {j : Nat} (h : ixN n i = some j) : seqIndex? i n = some j /\ j < n /\ -(n : Int) <= i /\ i < n := by
 unfold ixN at h
 by_cases h0 : 0 <= i
 ·rw [if_pos h0] at h
  by_cases h1 : i < n
  ·rw [if_pos h1] at h
   have e : i.toNat = j := Option.some.inj h
   exact ⟨by rw [seqIndex_of h0 h1, e], by omega, by omega, h1⟩
  ·rw [if_neg h1] at h; cases h
 ·rw [if_neg h0] at h
  by_cases h1 : -(n : Int) <= i
  ·rw [if_pos h1] at h
   have e : (i + n).toNat = j := Option.some.inj h
   exact ⟨by rw [seqIndex_neg (by omega) h1, e], by omega, h1, by omega⟩
  ·rw [if_neg h1] at h; cases h
theorem atI_get {α : Type} {xs : List α} {i : Int} {v : α} (h : atI xs i = some v) : ∃ j, seqIndex? i xs.length = some j /\ xs[j]? = some v /\ j < xs.length /\ -(xs.length : Int) <= i /\ i < xs.length := by
 unfold atI at h
 cases e : ixN xs.length i with
 | none => rw [e] at h; cases h
 | some j =>
  rw [e] at h
  obtain ⟨h1, h2, h3, h4⟩ := ixN_seq e
  exact ⟨j, h1, h, h2, h3, h4⟩
theorem bW {α : Type} {xs : List α} {j : Nat} {v : α} (h : xs[j]? = some v) : atI xs (j : Int) = some v := by
 have hj : j < xs.length := (List.getElem?_eq_some_iff.mp h).1
 have e : ixN xs.length (j : Int) = some j := by
  unfold ixN
  rw [if_pos (by omega), if_pos (by omega)]; simp
 unfold atI; rw [e]; exact h
def PlainIx (b : Expr) : Prop := ∀ o i, subscripted b false o i = operate [o, i] (getItem o i)
def IxR (X : Cx) (r : R2) : Prop :=
 ∀ (value slice : Expr) (pins : List (Addr × Obj)) (s : Shared) (σ : St) (H : Hp) (x y : V) (v u : Value) (Q : VK), Inv X pins σ H s -> RelV x v -> RelV y u -> r x y H Q ->
  subscripted slice false v u = operate [v, u] (getItem v u) -> wpAny (model X.prog X.w) X.A (subscriptTail value slice v u) (EP X pins σ Q) X.xe s
def MtR (X : Cx) (id : String) (r : V -> List V -> Hp -> VK -> Prop) : Prop :=
 ∀ (pins : List (Addr × Obj)) (s : Shared) (σ : St) (H : Hp) (x : V) (xs : List V) (v : Value) (us : List Value) (Q : VK), Inv X pins σ H s -> RelV x v -> Vals xs us -> r x xs H Q ->
  wpAny (model X.prog X.w) X.A (call (.builtin id) (v :: us)) (EP X pins σ Q) X.xe s
section
variable {X : Cx} {a b : Expr} {ta tb : TE} {pos : Pos}
theorem bC {r : R2} (hr : IxR X r) (ha : PE X a ta) (hb : PE X b tb) (hs : PlainIx b) : PE X (.Subscript a b pos) (tOp r ta tb) := by
 intro pins s σ H Q I h
 exact Subscript_ (binT ha hb I h fun v u s2 x y H2 I2 rx ry q => hr a b pins s2 σ H2 x y v u Q I2 rx ry q (hs _ _))
def rIxL (K : PySem.W.Frag) : R2 := fun x y H Q => ∃ p xs i v, x = .ref p /\ y = .int i /\ SqL K H p xs /\ atI xs i = some v /\ Q v H
def rIxT (K : PySem.W.Frag) : R2 := fun x y H Q => ∃ p xs i v, x = .ref p /\ y = .int i /\ SqT K H p xs /\ atI xs i = some v /\ Q v H
theorem ix_list : IxR X (rIxL X.K) := by
 intro value slice pins s σ H x y v u Q I rx ry h hs
 obtain ⟨p, xs, i, z, rfl, rfl, hq, he, q⟩ := h
 cases rx
 obtain ⟨t, rfl⟩ := ry
 obtain ⟨its, r, pl, hz⟩ := I.list hq
 obtain ⟨j, h1, h2, h3, h4, h5⟩ := atI_get he
 obtain ⟨w, ew, rw'⟩ := r.get h2
 have hl := r.length
 have hn := oO
 have fin : EP X pins σ Q w s := ⟨z, H, I, rw', q⟩
 by_cases h0 : 0 <= i
 ·have hj : i.toNat = j := by
   rw [seqIndex_of h0 h5] at h1
   exact Option.some.inj h1
  exact item_listR pl.isList h0 (by omega) (by rw [hj]; simpa using ew) fin hs
 ·have hj : (i + (its.toArray.size : Int)).toNat = j := by
   rw [seqIndex_neg (by omega) h4] at h1
   rw [List.size_toArray, <- hl]
   exact Option.some.inj h1
  exact subscriptTail_builtinR (x := w) pl.isList.typeIs slot_list_getitem.lookup
   (wpAny_getItem_list_neg (Q := fun r s' => r = w /\ EP X pins σ Q r s') pl.isList (by omega) (by rw [List.size_toArray] <;> omega) (by omega) (by rw [hj]; simpa using ew) ⟨rfl, fin⟩) hs
theorem ix_tup : IxR X (rIxT X.K) := by
 intro value slice pins s σ H x y v u Q I rx ry h hs
 obtain ⟨p, xs, i, z, rfl, rfl, hq, he, q⟩ := h
 cases rx
 obtain ⟨t, rfl⟩ := ry
 obtain ⟨its, r, pl, hz⟩ := I.tuple hq
 obtain ⟨j, h1, h2, h3, h4, h5⟩ := atI_get he
 obtain ⟨w, ew, rw'⟩ := r.get h2
 have hl := r.length
 have hn := oO
 have fin : EP X pins σ Q w s := ⟨z, H, I, rw', q⟩
 exact subscriptTail_builtinR (x := w) pl.typeIs slot_tuple_getitem.lookup
  (getItem_tuple (j := j) (Q := fun r s' => r = w /\ EP X pins σ Q r s') pl (by omega) (by omega) (by rw [List.size_toArray, <- hl]; exact h1) (by simpa using ew) ⟨rfl, fin⟩) hs
theorem mapSeq_set (its : List Value) (n j : Nat) (u : Value) : Obj.mapSeq (·.setIfInBounds j u) { cls := .type "list", data := .seq its.toArray n } = { cls := .type "list", data := .seq (its.set j u).toArray n } := by
 simp [Obj.mapSeq]
theorem Inv.lst {pins : List (Addr × Obj)} {σ : St} {H : Hp} {s : Shared} {p : Addr} {xs : List V} (I : Inv X pins σ H s) (h : H p = some (.lst xs)) :
  ∃ (its : List Value) (n : Nat), Vals xs its /\ s.heap.get? p = some { cls := .type "list", data := .seq its.toArray n } /\ xs.length <= sizeLine := by
 obtain ⟨z, its, n, r, e⟩ := I.hok p _ h
 exact ⟨its, n, r, e, z⟩
theorem Inv.lstUpd {pins : List (Addr × Obj)} {σ : St} {H : Hp} {s : Shared} {p : Addr} {xs ys : List V} {its its' : List Value} {n n' : Nat} {f : Obj -> Obj} (I : Inv X pins σ H s) (h : H p = some (.lst xs))
  (ho : s.heap.get? p = some { cls := .type "list", data := .seq its.toArray n }) (hf : f { cls := .type "list", data := .seq its.toArray n } = { cls := .type "list", data := .seq its'.toArray n' }) (r : Vals ys its') (hz : ys.length <= sizeLine) (t : Nat) :
  Inv X pins σ (upd H p (.lst ys)) { s with heap := s.heap.update p f, toks := t } := by
 have e : (s.heap.update p f).get? p = some { cls := .type "list", data := .seq its'.toArray n' } := by
  rw [Heap.get?_update_self f ho (by rw [hf] <;> rfl), hf]
 refine I.write (x := p) (e := p) (by rw [h]; trivial) (.inl rfl) (fun b u hb q => (Heap.get?_update_other _ _ (Ne.symm hb)).trans q) ⟨_, e⟩ ?_
 exact ⟨hz, its', n', r, e⟩
def rSetL : V -> V -> V -> Hp -> (Hp -> Prop) -> Prop := fun o i v H Q => ∃ p xs k j, o = .ref p /\ i = .int k /\ H p = some (.lst xs) /\ ixN xs.length k = some j /\ Q (upd H p (.lst (xs.set j v)))
theorem set_list : PSet X rSetL := by
 intro pins s σ H o i v ov iv u Q I ro ri rv h
 obtain ⟨p, xs, k, j, rfl, rfl, hp, hj, q⟩ := h
 cases ro
 obtain ⟨t, rfl⟩ := ri
 obtain ⟨its, n, r, ho, hz⟩ := I.lst hp
 obtain ⟨h1, h2, h3, h4⟩ := ixN_seq hj
 have hl := r.length
 have hn := oO
 have I' : Inv X pins σ (upd H p (.lst (xs.set j v))) { s with heap := s.heap.update p (Obj.mapSeq (·.setIfInBounds j u)) } :=
  I.lstUpd hp ho (mapSeq_set its n j u) (r.set rv j) (by rw [List.length_set]; exact hz) s.toks
 by_cases h0 : 0 <= k
 ·have hk : k.toNat = j := by
   rw [seqIndex_of h0 h4] at h1
   exact Option.some.inj h1
  exact PySem.W.ki_setAt ho h0 (by omega) (by rw [List.size_toArray, <- hl]; exact h4) (by rw [hk]; exact ⟨_, I', q⟩)
 ·have hk : (k + (its.toArray.size : Int)).toNat = j := by
   rw [seqIndex_neg (by omega) h3] at h1
   rw [List.size_toArray, <- hl]
   exact Option.some.inj h1
  exact PySem.W.ki_setBack ho (by omega) (by rw [List.size_toArray, <- hl]; exact h3) (by omega) (by rw [hk]; exact ⟨_, I', q⟩)
theorem slice_bounds (lo hi : Option Int) (n : Nat) : (sliceBounds lo hi none n).1 = ((HT.sIx n 0 lo : Nat) : Int) /\ (sliceBounds lo hi none n).2.1 = ((HT.sIx n n hi : Nat) : Int) /\ (sliceBounds lo hi none n).2.2 = 1 := by
 refine ⟨?_, ?_, rfl⟩
 ·cases lo with
  | none => simp [sliceBounds, HT.sIx]
  | some i =>
   simp only [sliceBounds, HT.sIx, Option.getD_none, show (1 : Int) > 0 by decide, if_true]
   by_cases h : i < 0
   ·simp only [h, if_true] <;> omega
   ·simp only [h, if_false] <;> omega
 ·cases hi with
  | none => simp [sliceBounds, HT.sIx]
  | some i =>
   simp only [sliceBounds, HT.sIx, Option.getD_none, show (1 : Int) > 0 by decide, if_true]
   by_cases h : i < 0
   ·simp only [h, if_true] <;> omega
   ·simp only [h, if_false] <;> omega
theorem slicePick_cut (its : List Value) (lo hi : Option Int) : slicePick its.toArray lo hi none = ((its.drop (HT.sIx its.length 0 lo)).take (HT.sIx its.length its.length hi - HT.sIx its.length 0 lo)).toArray := by
 obtain ⟨h1, h2, h3⟩ := slice_bounds lo hi its.toArray.size
 unfold slicePick
 rw [h1, h2, h3]
 simp only [sliceRange_one, pick_run, List.size_toArray] <;> rfl
def rSlL (K : PySem.W.Frag) : V -> Option Int -> Option Int -> Hp -> VK -> Prop := fun x lo hi H Q => ∃ a xs, x = .ref a /\ SqL K H a xs /\ ∀ p, H p = none -> Q (.ref p) (upd H p (.lst (cP xs lo hi)))
theorem sl_list : SlR X (rSlL X.K) := by
 intro pins s σ H x v vl vu lo hi sl Q I rx hs pl pu h
 obtain ⟨a, xs, rfl, hx, q⟩ := h
 cases rx
 obtain ⟨its, r, ht, hz⟩ := I.list hx
 have hlen := r.length
 refine ⟨"list", _, slot_list_getitem.lookup, ht.isList.typeIs, ?_⟩
 refine wpAny_getItem_list_slice ht.isList hs pl pu .none (by simp) ?_ (by rw [List.size_toArray] <;> omega)
 rw [slicePick_cut, <- hlen]
 refine ⟨.ref s.heap.objs.size, _, I.laid (t' := s.toks) (o := .lst (cP xs lo hi)) (fun b ob q => Heap.get?_push_of_some _ q) (Nat.le_refl _) ?_, rfl, q _ (I.hok.fresh (Nat.le_refl _))⟩
 exact ⟨Nat.le_trans (cutV_length xs lo hi) hz, _, 0, (r.drop (HT.sIx xs.length 0 lo)).take (HT.sIx xs.length xs.length hi - HT.sIx xs.length 0 lo), Heap.get?_push_size _ rfl⟩
theorem call_len_seq : dX X (.builtin "len") (fun xs H Q => ∃ p ys, xs = [.ref p] /\ (SqL X.K H p ys \/ SqT X.K H p ys) /\ Q (.int ys.length) H) := by
 intro pins s σ H xs us Q I r h
 obtain ⟨p, ys, rfl, hq, q⟩ := h
 obtain ⟨u, rfl, rx⟩ := fS r
 cases rx
 have hn := oO
 rcases hq with hq | hq
 ·obtain ⟨its, r', pl, hz⟩ := I.list hq
  have hlen := r'.length
  exact Calls.call_len_list pl.isList (by simp only [List.size_toArray] <;> omega) ⟨.int ys.length, H, I.tok _, ⟨s.toks + 1, by rw [List.size_toArray, hlen]⟩, q⟩
 ·obtain ⟨its, r', pl, hz⟩ := I.tuple hq
  have hlen := r'.length
  exact len_tuple pl (by simp only [List.size_toArray] <;> omega) ⟨.int ys.length, H, I.tok _, ⟨s.toks + 1, by rw [List.size_toArray, hlen]⟩, q⟩
theorem call_list_of : dX X (.type "list") (fun xs H Q => ∃ p ys, xs = [.ref p] /\ (SqL X.K H p ys \/ SqT X.K H p ys) /\ ∀ l, H l = none -> Q (.ref l) (upd H l (.lst ys))) := by
 intro pins s σ H xs us Q I r h
 obtain ⟨p, ys, rfl, hq, q⟩ := h
 obtain ⟨u, rfl, rx⟩ := fS r
 cases rx
 have fin : ∀ (its : List Value), Vals ys its -> ys.length <= sizeLine -> ∀ (h' : Heap) (c' : Nat), (∀ b o', s.heap.get? b = some o' -> h'.get? b = some o') ->
   h'.get? s.heap.objs.size = some { cls := .type "list", dict := none, data := .seq its.toArray c', slots := #[] } -> EP X pins σ Q (.ref s.heap.objs.size) { s with heap := h' } := fun its r' hz h' c' kp e =>
  ⟨.ref s.heap.objs.size, _, I.laid (t' := s.toks) kp (Nat.le_refl _) (show ObjOk X.prog X.w _ h' _ (.lst ys) from ⟨hz, its, c', r', e⟩), rfl, q _ (I.hok.fresh (Nat.le_refl _))⟩
 rcases hq with hq | hq
 ·obtain ⟨its, r', pl, hz⟩ := I.list hq
  have hlen := r'.length
  obtain ⟨o, ho, hc, n, hd⟩ := pl.isList
  exact call_list_seq p (.inl rfl) ho hc hd (fun h' c' kp e => fin its r' hz h' c' kp e) (by simp only [List.size_toArray] <;> omega)
 ·obtain ⟨its, r', pl, hz⟩ := I.tuple hq
  have hlen := r'.length
  obtain ⟨o, ho, hc, n, hd⟩ := pl
  exact call_list_seq p (.inr rfl) ho hc hd (fun h' c' kp e => fin its r' hz h' c' kp e) (by simp only [List.size_toArray] <;> omega)
theorem call_tuple_of : dX X (.type "tuple") (fun xs H Q => ∃ p ys, xs = [.ref p] /\ ((SqL X.K H p ys /\ ∀ l, H l = none -> Q (.ref l) (upd H l (.tup ys))) \/ (SqT X.K H p ys /\ Q (.ref p) H))) := by
 intro pins s σ H xs us Q I r h
 obtain ⟨p, ys, rfl, h⟩ := h
 obtain ⟨u, rfl, rx⟩ := fS r
 cases rx
 rcases h with ⟨hq, q⟩ | ⟨hq, q⟩
 ·obtain ⟨its, r', pl, hz⟩ := I.list hq
  have hlen := r'.length
  refine call_tuple_list pl.isList (fun h' kp => ?_) (by simp only [List.size_toArray] <;> omega)
  have I1 : Inv X pins σ H { s with heap := h' } := I.kept (t' := s.toks) kp
  have I2 : Inv X pins σ (upd H h'.objs.size (.tup ys)) { s with heap := h'.push { cls := .type "tuple", data := .seq its.toArray } } :=
   I1.laid (t' := s.toks) (fun b o e => Heap.get?_push_of_some _ e) (Nat.le_refl _) (show ObjOk X.prog X.w _ _ _ (.tup ys) from ⟨hz, its, r', IsTup.new _ _⟩)
  exact ⟨.ref h'.objs.size, _, I2, rfl, q _ (I1.hok.fresh (Nat.le_refl _))⟩
 ·obtain ⟨its, r', pl, hz⟩ := I.tuple hq
  exact call_tuple_same pl ⟨.ref p, H, I, rfl, q⟩
def tyV (K : PySem.W.Frag) (T : String) (x : V) (H : Hp) : Prop := match x with
 | .str _ => T = "str"
 | .int _ => T = "int"
 | .ref p => (T = "list" /\ ∃ xs, SqL K H p xs) \/ (T = "tuple" /\ ∃ o, K.lookup p = some o /\ o.cls = .type "tuple" /\ o.dict = none) \/
   (T = "dict" /\ ((∃ kvs, H p = some (.dK kvs)) \/ ∃ kvs, H p = some (.dT kvs))) \/ (T = "set" /\ ∃ S n, H p = some (.set S n))
 | _ => False
theorem tyV_is {pins : List (Addr × Obj)} {σ : St} {H : Hp} {s : Shared} {T : String} {x : V} {v : Value} (I : Inv X pins σ H s) (r : RelV x v) (ty : tyV X.K T x H) :
  s.TypeIs v T /\ ∀ a, v = .ref a -> ∃ ob, s.heap.get? a = some ob /\ ob.dict = none := by
 cases x with
 | str z =>
  obtain ⟨t, rfl⟩ := r
  cases (show T = "str" from ty)
  exact ⟨typeIs_str s z t, fun _ e => nomatch e⟩
 | int i =>
  obtain ⟨t, rfl⟩ := r
  cases (show T = "int" from ty)
  exact ⟨typeIs_int s i t, fun _ e => nomatch e⟩
 | ref p =>
  cases r
  rcases ty with ⟨rfl, xs, hq⟩ | ⟨rfl, o, hk, hc, hd⟩ | ⟨rfl, hk⟩ | ⟨rfl, S, n, hk⟩
  ·obtain ⟨its, _, pl, _⟩ := I.list hq
   refine ⟨pl.isList.typeIs, fun a e => ?_⟩
   cases e
   obtain ⟨o, n, e, c, hd, _⟩ := pl
   exact ⟨o, e, hd⟩
  ·refine ⟨⟨o, I.kIn p o hk, hc⟩, fun a e => ?_⟩
   cases e
   exact ⟨o, I.kIn _ o hk, hd⟩
  ·have z : ∃ o, s.heap.get? p = some o /\ o.ExactDict := by
    rcases hk with ⟨kvs, hk⟩ | ⟨kvs, hk⟩
    ·obtain ⟨_, _, _, _, o, _, _, e, ex, _⟩ := I.hok p _ hk
     exact ⟨o, e, ex⟩
    ·obtain ⟨_, _, _, _, o, _, _, e, ex, _⟩ := I.hok p _ hk
     exact ⟨o, e, ex⟩
   obtain ⟨o, e, ex⟩ := z
   refine ⟨⟨o, e, ex.1⟩, fun a e2 => ?_⟩
   cases e2
   exact ⟨o, e, ex.2.1⟩
  ·obtain ⟨o, _, _, _, e, ex, _⟩ := I.hok p _ hk
   refine ⟨⟨o, e, ex.1⟩, fun a e2 => ?_⟩
   cases e2
   exact ⟨o, e, ex.2.1⟩
 | _ => exact False.elim ty
def tBM (K : PySem.W.Frag) (T : String) (r : V -> List V -> Hp -> VK -> Prop) (to : TE) (t : TA) : TE := fun σ H Q => to σ H fun x H1 => tyV K T x H1 /\ t σ H1 fun xs H2 => r x xs H2 Q
variable {o e : Expr} {es : List Expr} {to : TE} {t : TA} {name : Str} {apos cpos : Pos} {T id : String} {r : V -> List V -> Hp -> VK -> Prop}
theorem fI (pa : PlainAttrs T) (slot : Slot T name id) (hty : typeOf (.builtin id) = pure (.type "method_descriptor")) (hm : MtR X id r) (ho : PE X o to) (ha : PA X (e :: es) t)
  (hbase : attributeBase o name X.env (eval o X.env) = eval o X.env := by rfl)
  (hfew : ((backTo cpos (starEach (e :: es) X.env)).all (fun x => !x.1) && (backToKw cpos (keywordEach [] X.env)).all (fun x => x.1.isSome)
   && decide ((e :: es).length + ([] : List Keyword).length + (if ([] : List Keyword).isEmpty then 0 else 1) < 30)) = true := by rfl)
  (hline : (apos.endLine == cpos.line) = true := by rfl) (hs : starEach (e :: es) X.env = (false, eval e X.env) :: starEach es X.env := by rfl) (hplain : (backTo cpos (starEach es X.env)).any (·.1) = false := by rfl) :
  PE X (.Call (.Attribute o name apos) (e :: es) [] cpos) (tBM X.K T r to t) := by
 intro pins s σ H Q I h
 refine wpAny_Call_method_late hbase hfew hline rfl (thn (ho pins s σ H _ I h) fun v s1 ⟨x, H1, I1, r1, ty, q1⟩ => ?_)
 obtain ⟨h1, h2⟩ := tyV_is I1 r1 ty
 refine ⟨T, id, pa, slot, hty, h1, h2, ?_⟩
 have hA := ha cpos pins s1 σ H1 _ I1 q1
 rw [hs] at hA ⊢
 refine Calls.callWith_builtin (by show (false || (backTo cpos (starEach es X.env)).any (·.1)) = false; rw [hplain] <;> rfl) (Calls.evalArgs_plain ?_)
 exact thn hA fun us s2 ⟨vs, H2, I2, r2, q2⟩ => hm pins s2 σ H2 x vs v us Q I2 r1 r2 q2
end
end L2
namespace L2
open PySem PySem.Spec PyProof.Rows
def MtM (X : Cx) (id : String) (r : V -> List V -> Hp -> VK -> Prop) : Prop :=
 ∀ (pins : List (Addr × Obj)) (s : Shared) (σ : St) (H : Hp) (x : V) (xs : List V) (v : Value) (us : List Value) (Q : VK), Inv X pins σ H s -> RelV x v -> Vals xs us -> r x xs H Q ->
  wpAny (model X.prog X.w) X.A (call (.builtin id) (v :: us)) (EP X pins σ Q) X.xe s
theorem Vals.one : ∀ {x : V} {us : List Value}, Vals [x] us -> ∃ u, us = [u] /\ RelV x u
 | _, _, .cons r .nil => ⟨_, rfl, r⟩
theorem Vals.rep {xs : List V} {us : List Value} (h : Vals xs us) : ∀ k : Nat, Vals (List.replicate k xs).flatten (List.replicate k us).flatten
 | 0 => .nil
 | k + 1 => by
  rw [List.replicate_succ, List.replicate_succ, List.flatten_cons, List.flatten_cons]
  exact Vals.append h (Vals.rep h k)
theorem l6 (its : List Value) : ∀ (k : Nat) (acc : List Value),
  List.foldl (fun x1 x2 => x1 ++ x2) acc.toArray (List.replicate k its.toArray) = (acc ++ (List.replicate k its).flatten).toArray
 | 0, acc => by simp
 | k + 1, acc => by
  have e : acc.toArray ++ its.toArray = (acc ++ its).toArray := by simp
  have e2 : (acc ++ its) ++ (List.replicate k its).flatten = acc ++ (List.replicate (k + 1) its).flatten := by
   rw [List.replicate_succ, List.flatten_cons, List.append_assoc]
  rw [<- e2, <- l6 its k (acc ++ its), <- e, List.replicate_succ, List.foldl_cons]
section
variable {X : Cx} {pins : List (Addr × Obj)} {σ : St} {H : Hp} {s : Shared} {l b : Addr} {xs ys zs : List V}
theorem Inv.lset {its its' : List Value} {n : Nat} {f : Array Value -> Array Value} {t' : Nat} (I : Inv X pins σ H s) (hH : H l = some (.lst xs))
  (e : s.heap.get? l = some { cls := .type "list", data := .seq its.toArray n }) (hf : f its.toArray = its'.toArray) (hv : Vals ys its') (hz : ys.length <= sizeLine) :
  Inv X pins σ (upd H l (.lst ys)) { s with heap := s.heap.update l (Obj.mapSeq f), toks := t' } := by
 have q := PySem.IsL.update e f
 rw [hf] at q
 refine I.write (x := l) (e := l) (by rw [hH]; exact trivial) (.inl rfl) (fun b' u hb hu => (Heap.get?_update_other s.heap (Obj.mapSeq f) (Ne.symm hb)).trans hu) ⟨_, q⟩ ?_
 exact ⟨hz, its', _, hv, q⟩
theorem Inv.lnew {its : List Value} {t' : Nat} (I : Inv X pins σ H s) (hv : Vals ys its) (hz : ys.length <= sizeLine) :
  Inv X pins σ (upd H s.heap.objs.size (.lst ys)) { s with heap := s.heap.push { cls := .type "list", data := .seq its.toArray }, toks := t' } :=
 I.laid (fun _ _ q => Heap.get?_push_of_some _ q) (Nat.le_refl _) ⟨hz, its, 0, hv, Heap.get?_push_size _ rfl⟩
theorem Inv.fresh (I : Inv X pins σ H s) : H s.heap.objs.size = none := I.hok.fresh (Nat.le_refl _)
theorem Inv.lstM (I : Inv X pins σ H s) (hH : H l = some (.lst xs)) : xs.length <= sizeLine /\ ∃ (its : List Value) (n : Nat), Vals xs its /\ xs.length = its.length /\ s.heap.get? l = some { cls := .type "list", data := .seq its.toArray n } := by
 obtain ⟨z, its, n, r, e⟩ := I.hok l _ hH
 exact ⟨z, its, n, r, r.length, e⟩
theorem notLongL {n : Nat} (h : n <= sizeLine) : Builtin.List.listTooLong n = false := by
 unfold Builtin.List.listTooLong
 exact decide_eq_false (by omega)
end
section
variable {X : Cx}
def rAppend : V -> List V -> Hp -> VK -> Prop := fun x vs H Q => ∃ l xs y, x = .ref l /\ vs = [y] /\ H l = some (.lst xs) /\ xs.length < sizeLine /\ Q .non (upd H l (.lst (xs ++ [y])))
theorem cX : MtM X "list.append" rAppend := by
 intro pins s σ H x vs v us Q I rx rv h
 obtain ⟨l, xs, y, rfl, rfl, hH, hz, q⟩ := h
 cases rx
 obtain ⟨u, rfl, ru⟩ := rv.one
 obtain ⟨z, its, n, r, hl, e⟩ := I.lstM hH
 refine call_meets F.slot_list_append ⟨_, e, rfl⟩ F.entry_list_append (F.args_list_append_2 _ _) (PySem.list_append l its.toArray n u (by rw [List.size_toArray]; omega)) ⟨e, ?_⟩
 refine ⟨.non, _, I.lset (its' := its ++ [u]) hH e (by simp) (r.append (.cons ru .nil)) ?_, rfl, q⟩
 rw [List.length_append, List.length_singleton]
 omega
def rCat : R2 := fun x y H Q => ∃ l b xs zs, x = .ref l /\ y = .ref b /\ H l = some (.lst xs) /\ H b = some (.lst zs) /\ xs.length + zs.length <= sizeLine /\ ∀ p, H p = none -> Q (.ref p) (upd H p (.lst (xs ++ zs)))
theorem fB : OpR X (binaryOp .Add) rCat := by
 intro pins s σ H x y v u Q I rx ry h
 obtain ⟨l, b, xs, zs, rfl, rfl, hH, hB, hz, q⟩ := h
 cases rx
 cases ry
 obtain ⟨z, its, n, r, hl, e⟩ := I.lstM hH
 obtain ⟨z2, its2, n2, r2, hl2, e2⟩ := I.lstM hB
 refine PySem.P.add_list e e2 ?_ (by rw [List.size_toArray, List.size_toArray]; omega)
 have ea : its.toArray ++ its2.toArray = (its ++ its2).toArray := by simp
 rw [ea]
 exact ⟨.ref _, _, I.lnew (t' := s.toks) (r.append r2) (by rw [List.length_append]; omega), rfl, q _ I.fresh⟩
def rRep : R2 := fun x y H Q => ∃ l k xs, x = .ref l /\ y = .int k /\ H l = some (.lst xs) /\ -(2 ^ 63) <= k /\ k < 2 ^ 63 /\ xs.length * k.toNat <= sizeLine /\
 ∀ p, H p = none -> Q (.ref p) (upd H p (.lst (List.replicate k.toNat xs).flatten))
theorem pK {α : Type} (xs : List α) (k : Nat) : (List.replicate k xs).flatten.length = k * xs.length := by
 induction k with
 | zero => simp
 | succ k ih => rw [List.replicate_succ, List.flatten_cons, List.length_append, ih, Nat.succ_mul, Nat.add_comm]
theorem lR : OpR X (binaryOp .Mult) rRep := by
 intro pins s σ H x y v u Q I rx ry h
 obtain ⟨l, k, xs, rfl, rfl, hH, h1, h2, hz, q⟩ := h
 cases rx
 obtain ⟨t, rfl⟩ := ry
 obtain ⟨z, its, n, r, hl, e⟩ := I.lstM hH
 have hlen : its.toArray.size * k.toNat <= sizeLine := by rw [List.size_toArray, <- hl]; exact hz
 have hcap : ¬ its.toArray.size * k.toNat > (2 ^ 63 - 1) / 8 := by
  have : (sizeLine : Nat) <= (2 ^ 63 - 1) / 8 := by decide
  omega
 have hfit : ¬ (!Builtin.List.listFitsIndex k) = true := by
  rw [fitsIndex_both h1 h2]
  exact Bool.false_ne_true
 have hlong : ¬ Builtin.List.listTooLong (its.toArray.size * k.toNat) = true := by
  rw [notLongL hlen]
  exact Bool.false_ne_true
 have hnew : List.foldl (fun x1 x2 => x1 ++ x2) #[] (List.replicate (if its.toArray.isEmpty = true then 0 else k.toNat) its.toArray) = (List.replicate k.toNat its).flatten.toArray := by
  have f0 : ∀ m : Nat, List.foldl (fun x1 x2 => x1 ++ x2) #[] (List.replicate m its.toArray) = (List.replicate m its).flatten.toArray := fun m => by
   have := l6 its m []
   rw [List.nil_append] at this
   exact this
  rw [f0]
  cases its with
  | nil => simp
  | cons a r' => rw [if_neg (by simp)]
 refine wpAny_binaryOp_repeat_ref (T := "list") (U := "int") (by decide) ⟨_, e, rfl⟩ (fun s' => typeIs_int s' k t) noFill_list_mul F.fills_int_mul F.slot_int_rmul repeat_list F.slot_int_index.lookup
  (call_meets F.slot_int_rmul (typeIs_int s k t) F.entry_int_rmul (F.args_int_rmul_2 _ _) (int___rmul___int_list k t l its.toArray n)
   ⟨e, rfl, ⟨_, e, rfl⟩, call_meets F.slot_list_mul ⟨_, e, rfl⟩ F.entry_list_mul (F.args_list_mul_2 _ _) (AutoListH.list___mul___list_int_3 l its.toArray n k t hfit hcap hlong) ⟨e, ?_⟩⟩)
 rw [hnew]
 exact ⟨.ref _, _, I.lnew (t' := s.toks) (r.rep k.toNat) (by rw [pK, Nat.mul_comm]; exact hz), rfl, q _ I.fresh⟩
end
end L2
namespace Att
open PySem PySem.W PySem.Calls PyProof.Rows
theorem oR {P : Params} {h : Heap} : ∀ (ns : List Int) (vs : List Value), WellAll P h vs (ns.map WData.int) -> IntsAre vs ns := by
 intro ns
 induction ns with
 | nil =>
  intro vs w
  rw [List.map_nil] at w
  cases w
  exact .nil
 | cons n ns ih =>
  intro vs w
  rw [List.map_cons] at w
  cases w with
  | cons a b =>
   cases a
   exact .cons _ _ (ih _ b)
theorem script_of {l : OpenLaw} {n : Nat} (hn : l.most = some n) {P : Params} {h : Heap} {args : List WData} {vals : List Value}
  (hpre : l.row.toRowW.claim.pre args = true) (hwl : WellAll P h vals args) :
  ∃ a vs ns, vals = [Value.ref a] /\ args = [WData.list (ns.map WData.int)] /\ h.get? a = some { cls := .type "list", data := .seq vs.toArray } /\ IntsAre vs ns /\ ns.length <= n := by
 have hsh : WShape.hasAll [] args [.list .int] = true := (pre_splitW hpre).1
 have hc : l.pre.holds [] { args := args } = true := (pre_splitW hpre).2
 obtain ⟨d, r, rfl, h1, h2⟩ := hasAllW_cons hsh
 obtain rfl := hasAllW_nil h2
 obtain ⟨xs, rfl, h3⟩ := hasW_list h1
 obtain ⟨ns, rfl⟩ := items_int h3
 have hlen : ns.length <= n := by
  unfold OpenLaw.pre at hc
  have h4 : (WTm.not (.lt (.lit (.int (n : Int))) (.len (.arg 0)))).holds [] { args := [.list (ns.map .int)] } = true := by
   have h4 := (holds_andW hc).1
   rw [hn] at h4
   exact h4
  have h5 := condW_of h4 (w_not (w_lt w_lit (w_len_list (w_arg rfl))))
  rw [List.length_map] at h5
  refine Nat.le_of_not_lt fun q => ?_
  have q' : (n : Int) < ((ns.length : Nat) : Int) := by omega
  first
   | (rw [decide_eq_true q'] at h5; exact absurd h5 (by decide))
   | (simp at h5; omega)
 cases hwl with
 | cons w1 w2 =>
  cases w2
  cases w1 with
  | list ho hall => exact ⟨_, _, ns, rfl, rfl, ho, oR ns _ hall, hlen⟩
theorem post_true (l : OpenLaw) (args : List WData) : l.row.toRowW.claim.post args (.bool true) args = true :=
 postW_of (r := l.row.toRowW) (X := (true == true))
  (show WShape.has [] (.bool true) .bool = true by first | rfl | decide | simp [WShape.has, WShape.arms, WShape.armsAll])
  (show (WTm.eq .res (.lit (.bool true))).value [] { args := args, res := some (.bool true), after := args } = some (.bool (true == true)) from w_eq_bool (w_res rfl) w_lit) rfl
theorem attach_call {l : OpenLaw} {n : Nat} {q : Program} {loose : List Str} {XP : (Str -> Option Value) -> Heap -> Prop} {YP : World -> Heap -> Prop} {d : DefRec}
  (hn : l.most = some n) (hdf : d.params.defaults = [])
  (call : ∀ (w : World) (s₀ s₁ : Shared) (mg mb : Str -> Option Value) (fa : Addr) (o : Obj) (pm cd doc : Value) (a : Addr) (vs : List Value) (ns : List Int),
   Ground q loose [] XP w s₀ mg mb s₁.heap -> YP w s₁.heap ->
   s₁.heap.get? fa = some o -> o.data = .func (docDef d.name d.params d.body d.scope pm cd doc) -> s₁.heap.CodeRec cd d.name -> mg d.name = some (.ref fa) ->
   s₁.heap.get? a = some { cls := .type "list", data := .seq vs.toArray } -> IntsAre vs ns -> ns.length <= n -> s₁.gens = #[] ->
   codeAny (model l.prog w) callerA (.call (.ref fa) ⟨[.ref a], []⟩) (fun r s' => r = .ok (.ret (.bool true)) /\ OldK s₁.heap s'.heap /\ s'.os = s₁.os /\ AllBare s'.gens) s₁) :
  WalkO q loose XP YP l.row.toRowW d [] (fun f vs => PySem.call f vs) := by
 intro w s₀ s₁ mg mb G Y fa o pm cd doc dV kV ho hd hcd hD hmg hg args vals as hpre hlay hrd hwl hlo
 obtain rfl : dV = .none := Dflts.none hD hdf
 obtain rfl : kV = .none := Dflts.noKw hD
 obtain ⟨a, vs, ns, rfl, rfl, hobj, hints, hlen⟩ := script_of hn hpre hwl
 refine enter_call (codeAny_mono (call w s₀ s₁ mg mb fa o pm cd doc a vs ns G Y ho (fd_plain hd) hcd hmg hobj hints hlen hg) fun r s' hq => ?_)
 obtain ⟨rfl, h2, h3, h4⟩ := hq
 exact ⟨.inl ⟨.bool true, .bool true, [], rfl, fun _ => rfl, .bool true, post_true l _, fun _ => ⟨List.Pairwise.nil, fun _ hm => (nomatch hm)⟩⟩, h2, h3, h4⟩
end Att
namespace L2
open PySem PySem.Spec PyProof.Rows
theorem pX : ∀ {vs : List Value} {ns : List Int}, IntsAre vs ns -> Vals (ns.map V.int) vs
 | _, _, .nil => .nil
 | _, _, .cons n t h => .cons ⟨t, rfl⟩ (pX h)
def Only (H : Hp) : Prop := ∀ b, H b = none \/ ∃ o xs, H b = some (.frz o (.lst xs))
theorem law_call {P : Program} {w : World} {K : PySem.W.Frag} {mg mb : Str -> Option Value} {CX : CXT} {k : Nat} {fa a : Addr} {fd : FuncData} {x : Str} {sp : Sp} {s₁ : Shared} {vs : List Value} {ns : List Int}
  (KX : K.In s₁.heap) (hns : s₁.heap.Ns mainGlobals mg) (hb : s₁.heap.Ns builtinsNs mb) (hbb : ∀ x : Str, x ≠ "__name__" -> mb x = bootBuiltins x) (hlim : s₁.heap.NoLimit) (hg : s₁.gens = #[])
  (ha : s₁.heap.get? a = some { cls := .type "list", data := .seq vs.toArray }) (hi : IntsAre vs ns) (hl : ns.length <= sizeLine) (hr : Room k callerA)
  (F : ∀ base : Heap, K.In base -> base.Ns mainGlobals mg -> FnOk P w K mg base CX k fa fd [x] sp) (hbind : ∀ (s : Shared) (u : Value), BindsTo s fd ⟨[u], []⟩ [(x, u)])
  (hsp : ∀ H : Hp, Only H -> SqL K H a (ns.map V.int) -> sp [.ref a] H (fun v _ => v = .bl true) fun _ _ _ => False)
  (hCX : ∀ H e s', CX [] H s₁ (fun _ _ _ => False) e s' -> False) :
  codeAny (model P w) callerA (.call (.ref fa) ⟨[.ref a], []⟩) (fun r s' => r = .ok (.ret (.bool true)) /\ OldK s₁.heap s'.heap /\ s'.os = s₁.os /\ AllBare s'.gens) s₁ := by
 have rv := pX hi
 have lenV := hi.length
 -- from an abstract heap in which nothing but the script may be tracked
 have core : ∀ H : Hp, Only H -> SqL K H a (ns.map V.int) -> HOk P w H s₁.heap -> (∀ b, H b ≠ none -> b = a) -> (H a ≠ none -> K.lookup a = none) ->
   codeAny (model P w) callerA (.call (.ref fa) ⟨[.ref a], []⟩) (fun r s' => r = .ok (.ret (.bool true)) /\ OldK s₁.heap s'.heap /\ s'.os = s₁.os /\ AllBare s'.gens) s₁ := by
  intro H hO hS hok hA hK
  have base_of : ∀ {b : Addr} {o : Obj}, s₁.heap.get? b = some o -> H b = none -> (kR s₁.heap H).get? b = some o := fun e n => hidT_get e n
  have noA : ∀ {b : Addr} {o : Obj} {es : Array DictEntry} {ep : Nat}, s₁.heap.get? b = some o -> o.data = .dict es ep -> H b = none := fun {b o es ep} e d => by
   cases q : H b with
   | none => rfl
   | some u =>
    have e' : b = a := hA b (by rw [q]; simp)
    subst e'
    rw [ha] at e; cases e
    have d' : Data.seq vs.toArray _ = Data.dict es ep := d
    cases d'
  have nsK : ∀ {b : Addr} {m : Str -> Option Value}, s₁.heap.Ns b m -> (kR s₁.heap H).Ns b m := fun {b m} ⟨o, es, ep, e, d, r⟩ => ⟨o, es, ep, base_of e (noA e d), d, r⟩
  have hKb : K.In (kR s₁.heap H) := fun b o e => base_of (KX b o e) (by
   cases q : H b with
   | none => rfl
   | some u =>
    have e' : b = a := hA b (by rw [q]; simp)
    subst e'
    rw [hK (by rw [q]; simp)] at e; cases e)
  have hM : Mod K mg (kR s₁.heap H) := ⟨hKb, nsK hns, ⟨mb, nsK hb, hbb⟩, let ⟨mc, h1, h2⟩ := hlim; ⟨mc, nsK h1, h2⟩⟩
  have e0 : Env0 P w K mg (kR s₁.heap H) callerA [] s₁ H := ⟨rfl, hM, fun b o e => of_hidT e, Nat.le_of_eq (hidT_size _ _), trivial, fun b hb => absurd (show b ∈ ([] : List Addr) from hb) (by simp), hok, .of_eq hg⟩
  refine codeAny_mono ((F _ hKb (nsK hns)).run callerA [] s₁ H ⟨[.ref a], []⟩ [.ref a] [.ref a] _ _ hr e0 (hbind s₁ (.ref a)) (.cons rfl .nil) (hsp H hO hS)) fun r s' h => ?_
  cases r with
  | error e => exact (hCX H e s' h).elim
  | ok fl =>
   cases fl with
   | next => exact False.elim h
   | brk => exact False.elim h
   | cont => exact False.elim h
   | ret u =>
    obtain ⟨v, H', os, bare, un, hok', r', q⟩ := h
    have q' : v = .bl true := q
    subst q'
    obtain rfl : u = Value.bool true := r'
    refine ⟨rfl, OldK.of_keep fun b o e => ?_, os, bare⟩
    cases q : H b with
    | none => exact un.keep b o e q (by intro z; exact absurd (show b ∈ ([] : List Addr) from z) (by simp)) (by simp)
    | some u =>
     rcases hO b with z | ⟨ob, xs, z⟩
     ·rw [q] at z; cases z
     ·have z2 := un.frzs b ob _ z
      obtain ⟨e1, _⟩ := hok b _ z
      obtain ⟨e2, _⟩ := hok' b _ z2
      rw [e] at e1; cases e1
      exact e2
 cases hk : K.lookup a with
 | some o =>
  -- the script is one of the module's own objects
  have e := KX a o hk
  rw [ha] at e
  cases e
  refine core (fun _ => none) (fun _ => .inl rfl) (.inr ⟨_, vs.toArray, _, hk, rfl, rfl, rfl, by rw [List.size_toArray, lenV]; exact hl, by simpa using rv⟩) (fun b u z => by have z' : (none : Option HO) = some u := z; cases z') (fun b z => absurd rfl z) fun z => absurd rfl z
 | none =>
  refine core (fun b => if b = a then some (.frz { cls := .type "list", data := .seq vs.toArray } (.lst (ns.map V.int))) else none) (fun b => ?_) (.inl (.inr ⟨{ cls := .type "list", data := .seq vs.toArray }, if_pos rfl⟩)) (fun b u z => ?_) (fun b z => ?_) fun _ => hk
  ·by_cases hb : b = a
   ·exact .inr ⟨_, _, if_pos hb⟩
   ·exact .inl (if_neg hb)
  ·by_cases hb : b = a
   ·have z' := (if_pos hb).symm.trans z
    cases z'
    subst hb
    exact ⟨ha, by rw [List.length_map]; exact hl, vs, _, rv, ha⟩
   ·have z' := (if_neg hb).symm.trans z
    cases z'
  ·by_cases hb : b = a
   ·exact hb
   ·exact absurd (if_neg hb) z
end L2
namespace L2
open PySem PySem.Spec PyProof.Rows
abbrev KOf {K : PySem.W.Frag} {h : Heap} (_ : K.In h) : PySem.W.Frag := K
theorem walk_of {l : PySem.W.OpenLaw} {n k : Nat} {q : Program} {loose : List Str} {XP : (Str -> Option Value) -> Heap -> Prop} {YP : World -> Heap -> Prop} {d : DefRec} {K : Params -> PySem.W.Frag} {CX : World -> CXT} {sp : World -> Sp} {x : Str}
  (hn : l.most = some n) (hn2 : n <= sizeLine) (hdf : d.params.defaults = []) (hr : Room k callerA)
  (hY : ∀ (w : World) (h : Heap), YP w h -> (K w.params).In h)
  (F : ∀ (w : World) (mg : Str -> Option Value) (fa : Addr) (h : Heap), (K w.params).In h -> h.Ns mainGlobals mg -> mg d.name = some (.ref fa) ->
   ∃ fd : FuncData, (∀ (s : Shared) (u : Value), BindsTo s fd ⟨[u], []⟩ [(x, u)]) /\
    ∀ base : Heap, (K w.params).In base -> base.Ns mainGlobals mg -> FnOk l.prog w (K w.params) mg base (CX w) k fa fd [x] (sp w))
  (hsp : ∀ (w : World) (H : Hp) (a : Addr) (ns : List Int), ns.length <= n -> Only H -> SqL (K w.params) H a (ns.map V.int) -> sp w [.ref a] H (fun v _ => v = .bl true) fun _ _ _ => False)
  (hCX : ∀ (w : World) (H : Hp) (s : Shared) (e : Value) (s' : Shared), CX w [] H s (fun _ _ _ => False) e s' -> False) :
  PySem.W.WalkO q loose XP YP l.row.toRowW d [] (fun f vs => PySem.call f vs) := by
 refine Att.attach_call hn hdf fun w s₀ s₁ mg mb fa o pm cd doc a vs ns G Y ho hd hcd hmg hobj hints hlen hg => ?_
 have KX := hY w _ Y
 obtain ⟨fd, hb, hF⟩ := F w mg fa _ KX G.T.g hmg
 exact law_call KX G.T.g G.T.b G.T.builtins G.T.nolimit hg hobj hints (Nat.le_trans hlen hn2) hr hF hb (fun H hO hS => hsp w H a ns hlen hO hS) fun H e s' => hCX w H s₁ e s'
end L2
namespace L2
open PySem PySem.Spec PyProof.Rows
def gO (s : Stmt) : Arguments := match s with
 | .FunctionDef _ a _ _ _ _ _ _ _ _ => a
 | _ => { posonlyargs := [], args := [], vararg := none, kwonlyargs := [], kw_defaults := [], kwarg := none, defaults := [] }
def eQ (s : Stmt) : List Stmt := match s with
 | .FunctionDef _ _ b _ _ _ _ _ _ _ => b
 | _ => []
def aG (s : Stmt) : Scope := match s with
 | .FunctionDef _ _ _ _ _ _ sc _ _ _ => sc
 | _ => { kind := .function, names := [], isGenerator := false, isCoroutine := false }
abbrev CX0 : CXT := fun _ _ _ _ _ _ => False
abbrev E0 : XK := fun _ _ _ => False
theorem pass0 {X : Cx} : oY CX0 X E0 := fun _ _ _ _ _ _ _ h => h.elim
structure Fun (K : PySem.W.Frag) (x qual : Str) (st : Stmt) (f : Addr) (fd : FuncData) : Prop where
 ex : ∃ (oc : Value) (od : Option Addr) (kV doc pm : Value) (an : Option Addr) (cdv ct : Value) (osl : Array (Option Value)),
  fd = PySem.W.fnOf x qual (gO st) (eQ st) (aG st) .none kV doc pm an cdv ct /\ K.lookup f = some ⟨oc, od, .func fd, osl⟩ /\ PySem.W.codeIn K cdv qual = true
 kp : PySem.W.keepIn K (.ref f) = true
section
variable {P : Program} {w : World} {K : PySem.W.Frag} {mg : Str -> Option Value} {base : Heap}
theorem Fun.ok {x qual : Str} {st : Stmt} {f : Addr} {fd : FuncData} {N ps : List Str} {k : Nat} {sp : Sp} (F : Fun K x qual st f fd) (S : FnScope N ps (aG st)) (len : ∀ vs H Q E, sp vs H Q E -> vs.length = ps.length)
  (hbody : ∀ (cdv : Value) (A : Around) (outer : List Env) (s : Shared) (H : Hp) (vs : List V) (Q : VK) (E : XK), Room k (A.deeper (envOfC qual (aG st) s.heap.objs.size f cdv)) -> sp vs H Q E ->
   ∃ t, PSs (iK CX0 P w K mg base N qual (aG st) f cdv A outer s H E).nox (eQ st) t /\ t { nx := fun _ H' => Q .non H', rt := Q } (iM N vs) H) : FnOk P w K mg base CX0 (k + 1) f fd ps sp := by
 obtain ⟨oc, od, kV, doc, pm, an, cdv, ct, osl, rfl, lk, hcd⟩ := F.ex
 refine fn_of lk hcd S len fun A outer s H vs Q E hr hsp => ?_
 obtain ⟨t, h, q⟩ := hbody cdv A outer s H vs Q E hr hsp
 exact ⟨t, h.nox, q⟩
theorem Fun.binds {x qual : Str} {st : Stmt} {f : Addr} {fd : FuncData} {ps : List Str} (F : Fun K x qual st f fd)
  (h : ∀ (kV doc pm : Value) (an : Option Addr) (cdv ct : Value) (us : List Value), us.length = ps.length -> bindArgs (PySem.W.fnOf x qual (gO st) (eQ st) (aG st) .none kV doc pm an cdv ct) ⟨us, []⟩ = pure (ps.zip us)) : Binds K fd ps [] := by
 obtain ⟨oc, od, kV, doc, pm, an, cdv, ct, osl, rfl, lk, hcd⟩ := F.ex
 exact .all (h kV doc pm an cdv ct)
theorem fun_mk {x qual : Str} {st : Stmt} {f : Addr} {oc : Value} {od an : Option Addr} {osl : Array (Option Value)} {kV doc pm cdv ct : Value} (l : K.lookup f = some ⟨oc, od, .func (PySem.W.fnOf x qual (gO st) (eQ st) (aG st) .none kV doc pm an cdv ct), osl⟩)
  (c : PySem.W.codeIn K cdv qual = true) (k : PySem.W.keepIn K (.ref f) = true) : Fun K x qual st f (PySem.W.fnOf x qual (gO st) (eQ st) (aG st) .none kV doc pm an cdv ct) := ⟨⟨oc, od, kV, doc, pm, an, cdv, ct, osl, rfl, l, c⟩, k⟩
end
theorem aN {n : Nat} (h : n <= 1000) : n < sizeLine := Nat.lt_of_le_of_lt h (by decide)
section
variable {X : Cx}
theorem pv (i : Nat) {x : Str} {pos : Pos} (hN : X.N[i]? = some x := by rfl) (hv : Vis X.env.scope x := by first | exact Or.inl rfl | exact Or.inr (Or.inl rfl) | exact Or.inr (Or.inr rfl)) (hd : (x == ("__debug__" : Str)) = false := by decide)
  (hcd : (x == ("__classdict__" : Str)) = false := by decide) : PE X (.Name x pos) (tVar i) := pe_var hN hv hd hcd
end
theorem eD {A B : Prop} (h : B) : if false = true then A else B := by
 rw [if_neg Bool.false_ne_true]
 exact h
theorem iI {A B : Prop} (h : A) : if true = true then A else B := by
 rw [if_pos rfl]
 exact h
theorem ite2 {c A B : Prop} [Decidable c] (h1 : c -> A) (h2 : ¬ c -> B) : if c then A else B := by
 by_cases h : c
 ·rw [if_pos h]
  exact h1 h
 ·rw [if_neg h]
  exact h2 h
theorem iteNS {c A B : Prop} [Decidable c] (hc : c) (h : B) : if (!decide c) = true then A else B := by
 rw [decide_eq_true hc]
 exact eD h
def Same (H H' : Hp) : Prop := ∀ b o, H b = some o -> H' b = some o
theorem Same.refl (H : Hp) : Same H H := fun _ _ h => h
theorem Same.trans {H H1 H2 : Hp} (a : Same H H1) (b : Same H1 H2) : Same H H2 := fun c o h => b c o (a c o h)
theorem Same.free {H H' : Hp} (e : Same H H') {l : Addr} (h : H' l = Option.none) : H l = Option.none := by
 cases q : H l with
 | none => rfl
 | some o =>
  rw [e l o q] at h
  cases h
theorem Same.seq {K : PySem.W.Frag} {H H' : Hp} {a : Addr} {xs : List V} (e : Same H H') (h : SqL K H a xs) : SqL K H' a xs := by
 rcases h with (h | ⟨o, h⟩) | h
 ·exact .inl (.inl (e _ _ h))
 ·exact .inl (.inr ⟨o, e _ _ h⟩)
 ·exact .inr h
end L2
set_option maxHeartbeats 4000000
namespace L2
open PySem PySem.Spec PyProof.Rows
def Bits (n : Nat) (x : Int) : Prop := x.natAbs < 2 ^ n
theorem Bits.mono {n m : Nat} {x : Int} (h : Bits n x) (l : n <= m) : Bits m x := Nat.lt_of_lt_of_le h (Nat.pow_le_pow_right (by decide) l)
theorem Bits.neg {n : Nat} {x : Int} (h : Bits n x) : Bits n (-x) := by
 unfold Bits at *; rw [Int.natAbs_neg]; exact h
theorem Bits.add {n : Nat} {x y : Int} (h : Bits n x) (k : Bits n y) : Bits (n + 1) (x + y) := by
 unfold Bits at *; rw [Nat.pow_succ]; omega
theorem Bits.sub {n : Nat} {x y : Int} (h : Bits n x) (k : Bits n y) : Bits (n + 1) (x - y) := by
 unfold Bits at *; rw [Nat.pow_succ]; omega
theorem Bits.mul {n m : Nat} {x y : Int} (h : Bits n x) (k : Bits m y) : Bits (n + m) (x * y) := by
 unfold Bits at *
 rw [Int.natAbs_mul, Nat.pow_add]
 exact Nat.mul_lt_mul'' h k
theorem Bits.le {n : Nat} {x y : Int} (h : Bits n x) (k : y.natAbs <= x.natAbs) : Bits n y := Nat.lt_of_le_of_lt k h
theorem Bits.log2 {n : Nat} {x : Int} (h : Bits n x) (hn : 0 < n) : x.natAbs.log2 < n := by
 by_cases z : x.natAbs = 0
 ·rw [z]; exact Nat.lt_of_le_of_lt (by decide) hn
 ·exact (Nat.log2_lt z).mpr h
theorem Bits.intBits {n : Nat} {x : Int} (h : Bits n x) : Builtin.Int.intBits x <= n := by
 unfold Builtin.Int.intBits
 by_cases z : (x == 0) = true
 ·rw [if_pos z]; exact Nat.zero_le _
 ·rw [if_neg z]
  have z' : x.natAbs ≠ 0 := by
   intro e; apply z; have : x = 0 := Int.natAbs_eq_zero.mp e; rw [this]; rfl
  exact (Nat.log2_lt z').mpr h
def CMulB (i j : Int) : Prop := ∃ n, n <= 1048576 /\ Bits n i /\ Bits n j
theorem CMulB.ok {i j : Int} (h : CMulB i j) : IntMulOk i j := by
 obtain ⟨n, hn, h1, h2⟩ := h
 exact .of_bits (Nat.le_trans h1.intBits (Nat.le_trans hn (by decide))) (Nat.le_trans h2.intBits (Nat.le_trans hn (by decide)))
def CDivB (_ j : Int) : Prop := j ≠ 0 /\ Bits 9000 j
section
variable {X : Cx}
theorem bK : OpR X (binaryOp .Mult) (rI CMulB fun i j => .int (i * j)) := opI fun _ _ _ _ _ _ _ hc q => mul_int q hc.ok
theorem op_fdivB : OpR X (binaryOp .FloorDiv) (rI CDivB fun i j => .int (i.fdiv j)) := opI fun _ _ _ _ _ _ _ hc q => floordiv_int hc.1 q (.inl (PyProof.noPylong_of_log2 (hc.2.log2 (by decide))))
end
section
variable {X : Cx} {pins : List (Addr × Obj)} {σ : St} {H : Hp} {s : Shared} {h' : Heap} {ch : List Addr}
theorem Inv.turnedL0 {t' : Nat} (I : Inv X pins σ H s) (k : ∀ b o, b ∉ ch -> s.heap.get? b = some o -> h'.get? b = some o) (hf : ∀ b ∈ ch, fJ X pins H b) :
  Inv X pins σ H { s with heap := h', toks := t' } := by
 have nit : ∀ b u, H b = some u -> b ∉ ch := fun b u e z => by rw [(hf b z).1] at e; cases e
 refine I.step (g' := s.gens) (d' := s.drawn) (ch := ch) (fun b hb => ⟨(hf b hb).2.2.2.1, (hf b hb).2.1, (hf b hb).2.2.2.2.1, (hf b hb).2.2.2.2.2⟩) (fun b o _ _ hc e _ => k b o hc e) (fun b o _ _ hc e _ => ⟨o.slots, k b o hc e⟩) (fun _ _ _ _ n => n)
  (fun b o hc e => ⟨o, k b o hc e⟩) (fun _ _ e => e) (fun _ _ _ e => e) (fun b ps e => ⟨#[], by rw [e]; simp⟩) (fun m hm => ?_) (fun b u e => ?_) I.bare
 ·obtain ⟨o, es, ep, ho, r⟩ := hm
  exact ⟨o, es, ep, k _ o (fun z => (hf _ z).2.1 rfl) ho, r⟩
 ·refine (I.hok b u e).stay (fun c v hc q => k c v ?_ q) (fun _ q => q) fun _ _ q => q
  rcases hc with z | z
  ·rw [z]; exact nit b u e
  ·exact nit c _ z
theorem Inv.turnedNew {t' : Nat} {T : Addr} {o : HO} (I : Inv X pins σ H s) (k : ∀ b o, b ∉ ch -> s.heap.get? b = some o -> h'.get? b = some o) (hf : ∀ b ∈ ch, fJ X pins H b)
  (hT : s.heap.objs.size <= T) (new : ObjOk X.prog X.w (upd H T o) h' T o) :
  Inv X pins σ (upd H T o) { s with heap := h', toks := t' } := by
 have hn : H T = none := I.hok.fresh hT
 have nT : ∀ b ob, s.heap.get? b = some ob -> b ≠ T := fun b ob e => Nat.ne_of_lt (Nat.lt_of_lt_of_le (Heap.lt_size e) hT)
 have nit : ∀ b u, H b = some u -> b ∉ ch := fun b u e z => by rw [(hf b z).1] at e; cases e
 refine I.step (g' := s.gens) (d' := s.drawn) (ch := ch) (fun b hb => ⟨(hf b hb).2.2.2.1, (hf b hb).2.1, (hf b hb).2.2.2.2.1, (hf b hb).2.2.2.2.2⟩) (fun b o _ _ hc e _ => k b o hc e) (fun b o _ _ hc e _ => ⟨o.slots, k b o hc e⟩)
  (fun b ob _ e n => by rw [aQ (nT b ob e)]; exact n) (fun b o hc e => ⟨o, k b o hc e⟩) (fun b xs e => by rw [aQ (bH e hn)]; exact e) (fun b ob u e => by rw [aQ (bH e hn)]; exact e)
  (fun b ps e => ⟨#[], by rw [aQ (bH e hn), e]; simp⟩) (fun m hm => ?_) (fun b u e => ?_) I.bare
 ·obtain ⟨ob, es, ep, ho, r⟩ := hm
  exact ⟨ob, es, ep, k _ ob (fun z => (hf _ z).2.1 rfl) ho, r⟩
 ·by_cases hb : b = T
  ·subst hb
   rw [aC] at e
   cases e
   exact new
  ·rw [aQ hb] at e
   refine (I.hok b u e).stay (fun c v hc q => k c v ?_ q) (fun c q => by rw [aQ (bH q hn)]; exact q) fun c xs q => by rw [aQ (bH q hn)]; exact q
   rcases hc with z | z
   ·rw [z]; exact nit b u e
   ·exact nit c _ z
end
def SqB (K : PySem.W.Frag) (b : Bool) (H : Hp) (a : Addr) (xs : List V) : Prop := bif b then SqT K H a xs else SqL K H a xs
section
variable {X : Cx} {pins : List (Addr × Obj)} {σ : St} {H : Hp} {s : Shared} {a c : Addr} {xs ys : List V} {b : Bool}
theorem Inv.awayK (I : Inv X pins σ H s) (f : fJ X pins H c) {o : Obj} (h : X.K.lookup a = some o) : a ≠ c := by
 intro z
 have h1 := I.mod.kin a o h
 have h2 := (I.ok.bs a o h1).1
 rcases f.2.2.2.1 with q | q
 ·exact I.ok.noex a o h1 (by rw [z]; exact q)
 ·rw [<- z] at q; exact absurd (Nat.lt_of_lt_of_le (Heap.lt_size h2) q) (Nat.lt_irrefl _)
theorem Inv.away (I : Inv X pins σ H s) (f : fJ X pins H c) (h : SqB X.K b H a xs) : a ≠ c := by
 have no : ∀ {u : HO}, H a = some u -> a ≠ c := fun e z => by rw [z, f.1] at e; cases e
 cases b
 ·rcases (show SqL X.K H a xs from h) with (e | ⟨o, e⟩) | ⟨o, its, n, e, _⟩
  ·exact no e
  ·exact no e
  ·exact I.awayK f e
 ·rcases (show SqT X.K H a xs from h) with (e | ⟨o, e⟩) | ⟨o, its, n, e, _⟩
  ·exact no e
  ·exact no e
  ·exact I.awayK f e
end
def Ite (K : PySem.W.Frag) (a : Addr) : It :=
  ⟨fun i H => ∃ xs x, SqL K H a xs /\ xs[i]? = some x,
   fun i H x H' => ∃ T v, x = .ref T /\ H T = none /\ H' = upd H T (.tup [.int (i : Nat), v]) /\ ∀ xs, SqL K H a xs -> xs[i]? = some v,
   fun i H => ∃ xs, SqL K H a xs /\ xs.length <= i⟩
theorem turn_enum {P : Program} {w : World} {K : PySem.W.Frag} {es : List Expr} {k : Nat} {pos : Pos} (a e it : Addr) (hei : e ≠ it) :
  Turn P w K (.Tuple es k pos) (Ite K a) [e, it] e (fun i h => (∃ old, IsEnum h e it i old) /\ h.IsListIter it a i) where
 mem := by simp
 obj := fun i h st b hb => by
  obtain ⟨⟨old, h1⟩, o, h2, c, d⟩ := st
  have hb' : b = e \/ b = it := by simpa using hb
  rcases hb' with z | z
  ·subst z
   exact ⟨_, h1, fun v z => by
    have z' : Data.fields _ = Data.cell v := z
    cases z'⟩
  ·subst z; exact ⟨o, h2, fun v z => by rw [d] at z; cases z⟩
 keep := fun i h h' st kk => by
  obtain ⟨⟨old, h1⟩, st2⟩ := st
  exact ⟨⟨old, kk e (by simp) _ h1⟩, st2.at fun o q => kk it (by simp) o q⟩
 item := by
  intro X hP hw hK hc i pins s σ H E I hf st hg
  subst hP hw hK
  obtain ⟨xs, x, hq, hx⟩ := hg
  obtain ⟨its, rv, p, hz⟩ := I.list hq
  obtain ⟨u, hu, ru⟩ := rv.get hx
  obtain ⟨⟨old, he⟩, hit⟩ := st
  have hne : a ≠ it := I.away (b := false) (hf it (by simp)) hq
  have hea : e ≠ a := fun z => I.away (b := false) (hf e (by simp)) hq z.symm
  have D := Draws.list (prog := X.prog) (w := X.w) (A := X.A.in1) (I.ok.hd hc) it a hne its.toArray
  have hlt : i < its.toArray.size := by
   have := (List.getElem?_eq_some_iff.mp hu).1
   simpa using this
  refine wpAny_pyNext_enum_itemD D he ⟨hit, p.isList⟩ hlt hei (by simp [hei, hea]) fun y h1 tk hy ho hst ht hsz hk => ?_
  have ey : y = u := by
   have h2 : its[i]? = some y := by simpa using hy
   rw [hu] at h2; cases h2; rfl
  subst ey
  refine ⟨_, rfl, ?_⟩
  have hTe : s.heap.objs.size ≠ e := Nat.ne_of_gt (Heap.lt_size he)
  refine wpAny_letOwnedTupleGo_enum ho fun h2 he2 hs2 => ?_
  have hs2' : Heap.SameBut e h1 h2 := hs2
  have kk : ∀ b o, b ∉ [e, it] -> s.heap.get? b = some o -> h2.get? b = some o := fun b o hb q => by
   have hb' : b ≠ e /\ b ≠ it := by simpa using hb
   exact (hs2'.2 b hb'.1).trans (hk b o hb'.1 hb'.2 q)
  have hT2 : h2.get? s.heap.objs.size = some { cls := .type "tuple", data := .seq #[.int i tk, y] } := (hs2'.2 _ hTe).trans ht
  have new : ObjOk X.prog X.w (upd H s.heap.objs.size (.tup [.int (i : Nat), x])) h2 s.heap.objs.size (.tup [.int (i : Nat), x]) :=
   ⟨by show 2 <= sizeLine; decide, [.int i tk, y], .cons ⟨tk, rfl⟩ (.cons ru .nil), ⟨_, hT2, rfl, _, rfl⟩⟩
  have hnT : H s.heap.objs.size = none := I.hok.fresh (Nat.le_refl _)
  refine ⟨.ref s.heap.objs.size, upd H s.heap.objs.size (.tup [.int (i : Nat), x]), I.turnedNew kk hf (Nat.le_refl _) new, rfl, ⟨_, x, rfl, hnT, rfl, fun ys hy' => by rw [I.list_inj hy' hq]; exact hx⟩,
   ⟨⟨_, by simpa using he2⟩, hst.1.at fun o q => (hs2'.2 it (Ne.symm hei)).trans q⟩, fun b hb => ?_⟩
  have hne2 : b ≠ s.heap.objs.size := by
   have hb' : b = e \/ b = it := by simpa using hb
   rcases hb' with z | z
   ·rw [z]; exact Ne.symm hTe
   ·obtain ⟨o, q, _⟩ := hit
    rw [z]; exact Nat.ne_of_lt (Heap.lt_size q)
  rw [aQ hne2]
  exact (hf b hb).1
 done := by
  intro X hP hw hK hc i pins s σ H E I hf st hg
  subst hP hw hK
  obtain ⟨xs, hq, hx⟩ := hg
  obtain ⟨its, rv, p, hz⟩ := I.list hq
  obtain ⟨⟨old, he⟩, hit⟩ := st
  have hl := rv.length
  -- at the end the iterator yields no more
  have hT : s.TypeIs (.ref e) "enumerate" := ⟨_, he, rfl⟩
  unfold pyNext
  refine wpAny_bind (wpAny_attempt (wpAny_callSpecial?_slot (name := Str.ofString "__next__") hT F.slot_enumerate_next
   (wpAny_call_entry F.slot_enumerate_next hT F.entry_enumerate_next ?_ (F.args_enumerate_next_1 _))))
  show wpAny _ _ (field (.ref e) 2 >>= _) _ _ _
  refine wpAny_bind (wpAny_field he rfl (x := .ref it) rfl ?_)
  refine wpAny_bind (wpAny_nextOf_list_end (A := X.A.in1) (I.ok.hd hc) hit p.isList (by simp; omega) fun h1 ex hx1 hx2 => ?_)
  obtain ⟨o, ho, hcc⟩ := hx2
  refine wpAny_bind (wpAny_isInstance (T := "StopIteration") (b := true) ⟨o, ho, hcc⟩ isSubtype_stop ?_)
  refine wpAny_pure ⟨rfl, ?_⟩
  obtain ⟨f0, f1, f2, f3, f4, f5⟩ := hf it (by simp)
  exact I.turned (t' := s.toks) (fun b o hb q => hx1 b o hb q) f0 f1 f3 f4 f5
 self := fun _ _ _ _ _ st h => by
  obtain ⟨⟨old, he⟩, _⟩ := st
  exact wpAny_pyIter_enum he h
section
variable {X : Cx} {es : List Expr} {k : Nat} {tpos : Pos}
def iEnum (K : PySem.W.Frag) (ta : TA) : TI := fun σ H R => ta σ H fun vs H1 => ∃ a, vs = [.ref a] /\ (∃ xs, SqL K H1 a xs) /\ R (Ite K a) H1
theorem pi_enum {e : Expr} {ta : TA} {p pos : Pos} (hg : Gl X "enumerate") (hm : X.mg "enumerate" = none) (ha : PA X [e] ta) (hs : starEach [e] X.env = [(false, eval e X.env)] := by rfl) :
  PI X (.Tuple es k tpos) (.Call (.Name "enumerate" p) [e] [] pos) (iEnum X.K ta) := by
 intro pins s σ H R I h
 refine Call_ (iD I hg hm (u := .type "enumerate") (by rfl) (PyProof.Rows.callWith_type1 (thn (ha pos pins s σ H _ I h) fun us s1 ⟨vs, H1, I1, r1, q1⟩ => ?_) hs rfl))
 obtain ⟨a, rfl, ⟨xs, hq⟩, q⟩ := q1
 obtain ⟨u, rfl, r⟩ := fS r1
 obtain rfl : u = Value.ref a := r
 obtain ⟨its, rv, p, hz⟩ := I1.list hq
 refine call_enumerate_list p.isList fun h1 h2 h3 h4 h5 => ?_
 refine wpAny_pyIter_enum h2 ?_
 have I2 : Inv X pins σ H1 { s1 with heap := h1 } := I1.kept (t' := s1.toks) h5
 refine ⟨s1.heap.objs.size + 1, [s1.heap.objs.size + 1, s1.heap.objs.size], _, _, H1, rfl, I2, turn_enum a _ _ (Nat.succ_ne_self _), ⟨⟨_, h2⟩, h3⟩, fun b hb => ?_, q⟩
 have hb' : b = s1.heap.objs.size + 1 \/ b = s1.heap.objs.size := by simpa using hb
 have hle : s1.heap.objs.size <= b := by rcases hb' with z | z <;> rw [z] <;> first | exact Nat.le_add_right _ _ | exact Nat.le_refl _
 exact I1.fpOk hle (I1.hok.fresh hle)
end
end L2
namespace L2
open PySem PySem.Spec PyProof.Rows
def SeqAt (h : Heap) (b : Bool) (l : Addr) (xs : Array Value) : Prop := bif b then h.IsTuple l xs else h.IsList l xs
def SItAt (h : Heap) (b : Bool) (it l : Addr) (i : Nat) : Prop := bif b then h.IsTupleIter it l i else h.IsListIter it l i
def mP (b : Bool) (l : Addr) : Obj := { cls := .type (bif b then "tuple_iterator" else "list_iterator"), data := .fields #[.ref l, .int 0 0] }
theorem SeqAt.but {h h' : Heap} {b : Bool} {l c : Addr} {xs : Array Value} (x : SeqAt h b l xs) (e : Heap.ExtBut c h h') (n : l ≠ c) : SeqAt h' b l xs := by
 cases b
 ·exact Heap.IsList.extBut x e n
 ·exact Heap.IsTuple.extBut x e n
theorem SItAt.but {h h' : Heap} {b : Bool} {it l c : Addr} {i : Nat} (x : SItAt h b it l i) (e : Heap.ExtBut c h h') (n : it ≠ c) : SItAt h' b it l i := by
 cases b
 ·exact Heap.IsListIter.extBut x e n
 ·exact Heap.IsTupleIter.extBut x e n
theorem SItAt.keep {h h' : Heap} {b : Bool} {it l : Addr} {i : Nat} (x : SItAt h b it l i) (k : ∀ o, h.get? it = some o -> h'.get? it = some o) : SItAt h' b it l i := by
 cases b
 ·obtain ⟨o, e, r⟩ := (show h.IsListIter it l i from x); exact ⟨o, k o e, r⟩
 ·obtain ⟨o, e, r⟩ := (show h.IsTupleIter it l i from x); exact ⟨o, k o e, r⟩
theorem SItAt.there {h : Heap} {b : Bool} {it l : Addr} {i : Nat} (x : SItAt h b it l i) : ∃ o, h.get? it = some o /\ ∀ v, o.data ≠ .cell v := by
 cases b
 ·obtain ⟨o, e, c, d⟩ := (show h.IsListIter it l i from x); exact ⟨o, e, fun v z => by rw [d] at z; cases z⟩
 ·obtain ⟨o, e, c, d⟩ := (show h.IsTupleIter it l i from x); exact ⟨o, e, fun v z => by rw [d] at z; cases z⟩
section
variable {prog : Program} {w : World} {A : Around} {E : Value -> Shared -> Prop} {s : Shared}
theorem seq_iter {b : Bool} {l : Addr} {xs : Array Value} {Q : Value -> Shared -> Prop} (hl : SeqAt s.heap b l xs) (hQ : Q (.ref s.heap.objs.size) { s with heap := s.heap.push (mP b l) }) : wpAny (model prog w) A (pyIter (.ref l)) Q E s := by
 cases b
 ·exact wpAny_pyIter_list hl hQ
 ·exact wpAny_pyIter_tuple hl hQ
theorem tup_draw {it t : Addr} {i : Nat} {its : Array Value} {x : Value} {Q : Value -> Shared -> Prop} (hit : s.heap.IsTupleIter it t i) (ht : s.heap.IsTuple t its) (hx : its[i]? = some x)
  (hQ : ∀ h1, h1.IsTupleIter it t (i + 1) -> Heap.SameBut it s.heap h1 -> Q x { s with heap := h1 }) : wpAny (model prog w) A (Builtin.SmallTypes.nextOf (.ref it)) Q E s := by
 obtain ⟨ob, hob, hcl, hdt⟩ := id hit
 obtain ⟨ot, hot, _, nt, hds⟩ := ht
 unfold Builtin.SmallTypes.nextOf
 refine wpAny_bind (wpAny_callSpecial?_slot (name := Str.ofString "__next__") hit.typeIs F.slot_tuple_iterator_next (wpAny_call_entry F.slot_tuple_iterator_next hit.typeIs F.entry_tuple_iterator_next ?_ (F.args_tuple_iterator_next_1 _)))
 show wpAny _ _ (field (.ref it) 0 >>= _) _ _ _
 refine wpAny_bind (wpAny_field hob hdt (x := .ref t) rfl ?_)
 show wpAny _ _ (if (Value.ref t == Value.none) = true then _ else _) _ _ _
 rw [if_neg (by simp)]
 show wpAny _ _ (field (.ref it) 1 >>= _) _ _ _
 refine wpAny_bind (wpAny_field hob hdt (x := .int i 0) rfl ?_)
 show wpAny _ _ (seqItems? (.ref t) >>= _) _ _ _
 refine wpAny_bind (wpAny_seqItems hot hds ?_)
 simp only [Int.toNat_natCast, hx]
 refine wpAny_bind (wpAny_setField hob hdt (by simp) (wpAny_pure ⟨x, rfl, wpAny_pure (hQ _ ⟨_, Heap.get?_update_self _ hob (Obj.isFreed_of_fields (Obj.data_mapFields hdt _)), (Obj.cls_mapFields ..).trans hcl, ?_⟩ (Heap.SameBut.update ..))⟩))
 rw [Obj.data_mapFields hdt]; simp [rawInt]
theorem tup_drawn {it t : Addr} {i : Nat} {its : Array Value} {Q : Value -> Shared -> Prop} (hh : A.handled = none) (hit : s.heap.IsTupleIter it t i) (ht : s.heap.IsTuple t its) (hx : its[i]? = none)
  (hE : ∀ h1 e, Heap.ExtBut it s.heap h1 -> (∃ o, h1.get? e = some o /\ o.cls = .type "StopIteration") -> E (.ref e) { s with heap := h1 }) : wpAny (model prog w) A (Builtin.SmallTypes.nextOf (.ref it)) Q E s := by
 obtain ⟨ob, hob, hcl, hdt⟩ := id hit
 obtain ⟨ot, hot, _, nt, hds⟩ := ht
 unfold Builtin.SmallTypes.nextOf
 refine wpAny_bind (wpAny_callSpecial?_slot (name := Str.ofString "__next__") hit.typeIs F.slot_tuple_iterator_next (wpAny_call_entry F.slot_tuple_iterator_next hit.typeIs F.entry_tuple_iterator_next ?_ (F.args_tuple_iterator_next_1 _)))
 show wpAny _ _ (field (.ref it) 0 >>= _) _ _ _
 refine wpAny_bind (wpAny_field hob hdt (x := .ref t) rfl ?_)
 show wpAny _ _ (if (Value.ref t == Value.none) = true then _ else _) _ _ _
 rw [if_neg (by simp)]
 show wpAny _ _ (field (.ref it) 1 >>= _) _ _ _
 refine wpAny_bind (wpAny_field hob hdt (x := .int i 0) rfl ?_)
 show wpAny _ _ (seqItems? (.ref t) >>= _) _ _ _
 refine wpAny_bind (wpAny_seqItems hot hds ?_)
 simp only [Int.toNat_natCast, hx]
 refine wpAny_bind (wpAny_rule (wpAny_bind (wpAny_setField hob hdt (by simp) ?_)))
 show wpAny _ _ (newExc (.type "StopIteration") [] >>= _) _ _ _
 refine wpAny_bind ?_
 simp only [newExc, newTuple]
 refine wpAny_bind (wpAny_newObj_type ?_ (by size_fits))
 refine wpAny_bind (m := firstArgMember _ _) (wpAny_of_eq (a := Value.none) (by first | rfl | (simp only [firstArgMember]; rfl)) (wpAny_newObj_type ?_ (by size_fits)))
 simp only [raiseNew]
 refine wpAny_bind (wpAny_handled ?_)
 first | rw [show A.in1.handled = none from hh] | rw [hh]
 exact wpAny_bind (wpAny_pure (wpAny_throw (hE _ _ (((Heap.SameBut.update ..).extBut.push _).push _) ⟨_, Heap.get?_push_size _ rfl, rfl⟩)))
theorem nB {b : Bool} {it l : Addr} {i : Nat} {xs : Array Value} {x : Value} {Q : Value -> Shared -> Prop} (hit : SItAt s.heap b it l i) (hl : SeqAt s.heap b l xs) (hx : xs[i]? = some x)
  (hQ : ∀ h1, SItAt h1 b it l (i + 1) -> Heap.SameBut it s.heap h1 -> Q x { s with heap := h1 }) : wpAny (model prog w) A (Builtin.SmallTypes.nextOf (.ref it)) Q E s := by
 cases b
 ·exact wpAny_nextOf_list_item hit hl hx hQ
 ·exact tup_draw hit hl hx hQ
theorem qC {b : Bool} {it l : Addr} {i : Nat} {xs : Array Value} {Q : Value -> Shared -> Prop} (hh : A.handled = none) (hit : SItAt s.heap b it l i) (hl : SeqAt s.heap b l xs) (hx : xs[i]? = none)
  (hE : ∀ h1 e, Heap.ExtBut it s.heap h1 -> (∃ o, h1.get? e = some o /\ o.cls = .type "StopIteration") -> E (.ref e) { s with heap := h1 }) : wpAny (model prog w) A (Builtin.SmallTypes.nextOf (.ref it)) Q E s := by
 cases b
 ·exact wpAny_nextOf_list_end hh hit hl hx hE
 ·exact tup_drawn hh hit hl hx hE
structure ZA (z TI TO i1 i2 : Addr) : Prop where
 a1 : TI ≠ z
 a2 : TO ≠ z
 a3 : i1 ≠ z
 a4 : i2 ≠ z
 a5 : TI ≠ TO
 a6 : TI ≠ i1
 a7 : TI ≠ i2
 a8 : TO ≠ i1
 a9 : TO ≠ i2
 a0 : i1 ≠ i2
def Off (z TI TO i1 i2 l : Addr) : Prop := l ≠ z /\ l ≠ TO /\ l ≠ i1 /\ l ≠ i2
theorem zipN_item {b1 b2 : Bool} {z TI TO i1 i2 l1 l2 : Addr} {k : Nat} {xs ys : Array Value} {x y p q : Value} {Q : Value -> Shared -> Prop} (D : ZA z TI TO i1 i2) (f1 : Off z TI TO i1 i2 l1) (f2 : Off z TI TO i1 i2 l2)
  (hz : IsZip s.heap z TI TO .none) (hI : IsPair s.heap TI (.ref i1) (.ref i2)) (hO : IsPair s.heap TO p q) (h1 : SItAt s.heap b1 i1 l1 k) (h2 : SItAt s.heap b2 i2 l2 k) (hl1 : SeqAt s.heap b1 l1 xs) (hl2 : SeqAt s.heap b2 l2 ys) (hx : xs[k]? = some x) (hy : ys[k]? = some y)
  (hQ : ∀ g, IsZip g z TI TO (rawInt s.heap.objs.size) -> IsPair g TO x y -> SItAt g b1 i1 l1 (k + 1) -> SItAt g b2 i2 l2 (k + 1) -> IsPair g s.heap.objs.size x y ->
   (∀ c o, c ≠ z -> c ≠ TO -> c ≠ i1 -> c ≠ i2 -> s.heap.get? c = some o -> g.get? c = some o) -> Q (.ref s.heap.objs.size) { s with heap := g }) :
  wpAny (model prog w) A (Builtin.«zip.__next__» ⟨[.ref z], []⟩) (fun fin s1 => ∃ v, fin = .done (.ret v) /\ Q v s1) E s := by
 show wpAny _ _ (field (.ref z) 2 >>= _) _ _ _
 refine wpAny_bind (wpAny_field hz rfl (x := .bool false) rfl ?_)
 show wpAny _ _ (field (.ref z) 3 >>= _) _ _ _
 refine wpAny_bind (wpAny_field hz rfl (x := .ref TI) rfl (wpAny_bind (wpAny_seqItems hI rfl ?_)))
 show wpAny _ _ (Builtin.SmallTypes.ownedTupleIsFree (.ref z) >>= _) _ _ _
 refine wpAny_bind ?_
 unfold Builtin.SmallTypes.ownedTupleIsFree
 refine wpAny_bind (wpAny_field hz rfl (x := .none) rfl (wpAny_pure ?_))
 simp only [if_true]
 refine wpAny_bind (wpAny_rule (wpAny_bind (wpAny_field hz rfl (x := .ref TO) rfl (wpAny_bind (wpAny_setField_rec hz (by simp) fun g1 z1 e1 => ?_)))))
 replace z1 : IsZip g1 z TI TO .ellipsis := z1
 refine wpAny_bind ?_
 simp only [List.zipIdx_cons, List.zipIdx_nil, List.forIn_cons, List.forIn_nil]
 refine wpAny_bind (wpAny_bind (wpAny_onRaise ?_))
 show wpAny _ _ (Builtin.SmallTypes.nextOf (.ref i1) >>= _) _ _ _
 refine wpAny_bind (nB (h1.but e1.extBut D.a3) (hl1.but e1.extBut f1.1) hx fun g2 j2 e2 => wpAny_pure ?_)
 have o2 : IsPair g2 TO p q := e2.extBut _ _ D.a8 (e1.extBut _ _ D.a2 hO)
 refine wpAny_bind (wpAny_seqItems o2 rfl (wpAny_bind (wpAny_updateSeq_pair o2 fun g3 o3 e3 => ?_)))
 replace o3 : IsPair g3 TO x q := o3
 refine wpAny_bind (wpAny_letGo (wpAny_pure (wpAny_bind (wpAny_bind (wpAny_onRaise ?_)))))
 show wpAny _ _ (Builtin.SmallTypes.nextOf (.ref i2) >>= _) _ _ _
 refine wpAny_bind (nB (((h2.but e1.extBut D.a4).but e2.extBut D.a0.symm).but e3.extBut D.a9.symm) (((hl2.but e1.extBut f2.1).but e2.extBut f2.2.2.1).but e3.extBut f2.2.1) hy fun g4 j4 e4 => wpAny_pure ?_)
 have o4 : IsPair g4 TO x q := e4.extBut _ _ D.a9 o3
 refine wpAny_bind (wpAny_seqItems o4 rfl (wpAny_bind (wpAny_updateSeq_pair o4 fun g5 o5 e5 => ?_)))
 replace o5 : IsPair g5 TO x y := o5
 refine wpAny_bind (wpAny_letGo (wpAny_pure (wpAny_pure (wpAny_bind (wpAny_seqItems o5 rfl (wpAny_bind (wpAny_newTuple ?_)))))))
 have sz : g5.objs.size = s.heap.objs.size := by rw [e5.1, e4.1, e3.1, e2.1, e1.1]
 have z5 : IsZip g5 z TI TO .ellipsis := e5.extBut _ _ D.a2.symm (e4.extBut _ _ D.a4.symm (e3.extBut _ _ D.a2.symm (e2.extBut _ _ D.a3.symm z1)))
 have k5 : ∀ c o, c ≠ z -> c ≠ TO -> c ≠ i1 -> c ≠ i2 -> s.heap.get? c = some o -> g5.get? c = some o := fun c o c1 c2 c3 c4 e => e5.extBut _ _ c2 (e4.extBut _ _ c4 (e3.extBut _ _ c2 (e2.extBut _ _ c3 (e1.extBut _ _ c1 e))))
 have j5 : SItAt g5 b1 i1 l1 (k + 1) := ((j2.but e3.extBut D.a8.symm).but e4.extBut D.a0).but e5.extBut D.a8.symm
 have j6 : SItAt g5 b2 i2 l2 (k + 1) := j4.but e5.extBut D.a9.symm
 have lz : z < g5.objs.size := Heap.lt_size z5
 show wpAny _ _ (Builtin.SmallTypes.ownedTupleHandOut (.ref z) (.ref g5.objs.size) >>= _) _ _ _
 refine wpAny_bind ?_
 unfold Builtin.SmallTypes.ownedTupleHandOut
 have z6 : IsZip (g5.push { cls := .type "tuple", data := .seq #[x, y] }) z TI TO .ellipsis := Heap.get?_push_of_some _ z5
 refine wpAny_bind (wpAny_setField_rec z6 (by simp) fun g7 z7 e7 => ?_)
 replace z7 : IsZip g7 z TI TO (rawInt g5.objs.size) := z7
 refine wpAny_setField_rec z7 (by simp) fun g8 z8 e8 => ?_
 replace z8 : IsZip g8 z TI TO (rawInt g5.objs.size) := z8
 have up : ∀ c o, c ≠ z -> g5.get? c = some o -> g8.get? c = some o := fun c o c1 e => e8.extBut _ _ c1 (e7.extBut _ _ c1 (Heap.get?_push_of_some _ e))
 have t8 : IsPair g8 g5.objs.size x y := e8.extBut _ _ (Nat.ne_of_gt lz) (e7.extBut _ _ (Nat.ne_of_gt lz) (Heap.get?_push_size _ rfl))
 rw [sz] at z8 t8
 refine wpAny_pure ⟨_, rfl, ?_⟩
 show Q (.ref g5.objs.size) _
 rw [sz]
 exact hQ g8 z8 (up _ _ D.a2 o5) (j5.keep fun o e => up _ o D.a3 e) (j6.keep fun o e => up _ o D.a4 e) t8 fun c o c1 c2 c3 c4 e => up c o c1 (k5 c o c1 c2 c3 c4 e)
theorem zipN_end {b1 b2 : Bool} {z TI TO i1 i2 l1 l2 : Addr} {k : Nat} {xs ys : Array Value} {p q : Value} {Q : Fin -> Shared -> Prop} (hh : A.handled = none) (D : ZA z TI TO i1 i2) (f1 : Off z TI TO i1 i2 l1) (f2 : Off z TI TO i1 i2 l2)
  (hz : IsZip s.heap z TI TO .none) (hI : IsPair s.heap TI (.ref i1) (.ref i2)) (hO : IsPair s.heap TO p q) (h1 : SItAt s.heap b1 i1 l1 k) (h2 : SItAt s.heap b2 i2 l2 k) (hl1 : SeqAt s.heap b1 l1 xs) (hl2 : SeqAt s.heap b2 l2 ys) (he : xs[k]? = none \/ ys[k]? = none)
  (hE : ∀ g e, (∀ c o, c ≠ z -> c ≠ TO -> c ≠ i1 -> c ≠ i2 -> s.heap.get? c = some o -> g.get? c = some o) -> (∃ o, g.get? e = some o /\ o.cls = .type "StopIteration") -> E (.ref e) { s with heap := g }) :
  wpAny (model prog w) A (Builtin.«zip.__next__» ⟨[.ref z], []⟩) Q E s := by
 show wpAny _ _ (field (.ref z) 2 >>= _) _ _ _
 refine wpAny_bind (wpAny_field hz rfl (x := .bool false) rfl ?_)
 show wpAny _ _ (field (.ref z) 3 >>= _) _ _ _
 refine wpAny_bind (wpAny_field hz rfl (x := .ref TI) rfl (wpAny_bind (wpAny_seqItems hI rfl ?_)))
 show wpAny _ _ (Builtin.SmallTypes.ownedTupleIsFree (.ref z) >>= _) _ _ _
 refine wpAny_bind ?_
 unfold Builtin.SmallTypes.ownedTupleIsFree
 refine wpAny_bind (wpAny_field hz rfl (x := .none) rfl (wpAny_pure ?_))
 simp only [if_true]
 refine wpAny_bind (wpAny_rule (wpAny_bind (wpAny_field hz rfl (x := .ref TO) rfl (wpAny_bind (wpAny_setField_rec hz (by simp) fun g1 z1 e1 => ?_)))))
 replace z1 : IsZip g1 z TI TO .ellipsis := z1
 refine wpAny_bind ?_
 simp only [List.zipIdx_cons, List.zipIdx_nil, List.forIn_cons, List.forIn_nil]
 refine wpAny_bind (wpAny_bind (wpAny_onRaise ?_))
 show wpAny _ _ (Builtin.SmallTypes.nextOf (.ref i1) >>= _) _ _ _
 cases hx : xs[k]? with
 | none =>
  refine wpAny_bind (qC hh (h1.but e1.extBut D.a3) (hl1.but e1.extBut f1.1) hx fun g2 e e2 hs => ?_)
  obtain ⟨oe, hoe, hce⟩ := hs
  have z2 : IsZip g2 z TI TO .ellipsis := e2 _ _ D.a3.symm z1
  have ne : e ≠ z := fun x => by subst x; rw [z2] at hoe; cases hoe; simp at hce
  exact wpAny_setField_rec z2 (by simp) fun g3 _ e3 => hE g3 e (fun c o c1 _ c3 _ x => e3.extBut _ _ c1 (e2 _ _ c3 (e1.extBut _ _ c1 x))) ⟨oe, e3.extBut _ _ ne hoe, hce⟩
 | some x =>
  have hy : ys[k]? = none := by
   rcases he with h | h
   ·rw [hx] at h; cases h
   ·exact h
  refine wpAny_bind (nB (h1.but e1.extBut D.a3) (hl1.but e1.extBut f1.1) hx fun g2 j2 e2 => wpAny_pure ?_)
  have o2 : IsPair g2 TO p q := e2.extBut _ _ D.a8 (e1.extBut _ _ D.a2 hO)
  refine wpAny_bind (wpAny_seqItems o2 rfl (wpAny_bind (wpAny_updateSeq_pair o2 fun g3 o3 e3 => ?_)))
  refine wpAny_bind (wpAny_letGo (wpAny_pure (wpAny_bind (wpAny_bind (wpAny_onRaise ?_)))))
  show wpAny _ _ (Builtin.SmallTypes.nextOf (.ref i2) >>= _) _ _ _
  refine wpAny_bind (qC hh (((h2.but e1.extBut D.a4).but e2.extBut D.a0.symm).but e3.extBut D.a9.symm) (((hl2.but e1.extBut f2.1).but e2.extBut f2.2.2.1).but e3.extBut f2.2.1) hy fun g4 e e4 hs => ?_)
  obtain ⟨oe, hoe, hce⟩ := hs
  have z4 : IsZip g4 z TI TO .ellipsis := e4 _ _ D.a4.symm (e3.extBut _ _ D.a2.symm (e2.extBut _ _ D.a3.symm z1))
  have ne : e ≠ z := fun x => by subst x; rw [z4] at hoe; cases hoe; simp at hce
  exact wpAny_setField_rec z4 (by simp) fun g5 _ e5 => hE g5 e (fun c o c1 c2 c3 c4 x => e5.extBut _ _ c1 (e4 _ _ c4 (e3.extBut _ _ c2 (e2.extBut _ _ c3 (e1.extBut _ _ c1 x))))) ⟨oe, e5.extBut _ _ ne hoe, hce⟩
end
abbrev zg1 (h : Heap) (b1 : Bool) (l1 : Addr) : Heap := h.push (mP b1 l1)
abbrev zg2 (h : Heap) (b1 b2 : Bool) (l1 l2 : Addr) : Heap := (zg1 h b1 l1).push (mP b2 l2)
abbrev zg3 (h : Heap) (b1 b2 : Bool) (l1 l2 : Addr) : Heap := (zg2 h b1 b2 l1 l2).push { cls := .type "tuple", data := .seq #[.ref h.objs.size, .ref (zg1 h b1 l1).objs.size] }
abbrev zg4 (h : Heap) (b1 b2 : Bool) (l1 l2 : Addr) : Heap := (zg3 h b1 b2 l1 l2).push { cls := .type "tuple", data := .seq #[.none, .none] }
abbrev zg5 (h : Heap) (b1 b2 : Bool) (l1 l2 : Addr) : Heap := (zg4 h b1 b2 l1 l2).push { cls := .type "zip", data := .fields #[.none, .bool false, .bool false, .ref (zg2 h b1 b2 l1 l2).objs.size, .ref (zg3 h b1 b2 l1 l2).objs.size] }
theorem SeqAt.push {h : Heap} {b : Bool} {l : Addr} {xs : Array Value} (x : SeqAt h b l xs) (o : Obj) : SeqAt (h.push o) b l xs := by
 cases b
 ·exact Heap.IsList.push x o
 ·exact Heap.IsTuple.push x o
theorem zipN_new (b1 b2 : Bool) (l1 l2 : Addr) (xs ys : Array Value) :
  Meets (Builtin.«zip.__new__» ⟨[.type "zip", .ref l1, .ref l2], []⟩) (fun _ R s => SeqAt s.heap b1 l1 xs /\ SeqAt s.heap b2 l2 ys /\
   R (.ok (.ret (.ref (zg4 s.heap b1 b2 l1 l2).objs.size))) { s with heap := zg5 s.heap b1 b2 l1 l2 }) :=
 .of_wp fun prog w A R s h => by
  obtain ⟨hp, g, d, tk, os⟩ := s; obtain ⟨g1, g2, h⟩ := h
  have hsub := sub_zip
  have q1 : SeqAt (Shared.heap ⟨hp, g, d, tk, os⟩) b1 l1 xs := g1
  have q2 : SeqAt (Shared.heap ⟨hp.push (mP b1 l1), g, d, tk, os⟩) b2 l2 ys := SeqAt.push g2 _
  wp_walk using seq_iter q1, seq_iter q2
  exact ⟨_, rfl, h⟩
section
variable {prog : Program} {w : World} {A : Around} {E : Value -> Shared -> Prop} {s : Shared}
theorem call_zipN {b1 b2 : Bool} {l1 l2 : Addr} {xs ys : Array Value} {Q : Value -> Shared -> Prop} (q1 : SeqAt s.heap b1 l1 xs) (q2 : SeqAt s.heap b2 l2 ys)
  (h : ∀ g, IsZip g (s.heap.objs.size + 4) (s.heap.objs.size + 2) (s.heap.objs.size + 3) .none -> IsPair g (s.heap.objs.size + 2) (.ref s.heap.objs.size) (.ref (s.heap.objs.size + 1)) ->
   IsPair g (s.heap.objs.size + 3) .none .none -> SItAt g b1 s.heap.objs.size l1 0 -> SItAt g b2 (s.heap.objs.size + 1) l2 0 ->
   (∀ c o, s.heap.get? c = some o -> g.get? c = some o) -> Q (.ref (s.heap.objs.size + 4)) { s with heap := g }) :
  wpAny (model prog w) A (call (.type "zip") [.ref l1, .ref l2]) Q E s := by
 refine callType_new F.called_zip (by decide) (F.typeCall_zip_2 _ _) (F.newCall_zip_2 _ _) (fun obj => F.args_object_init_3 obj _ _) F.entry_zip_new (zipN_new b1 b2 l1 l2 xs ys) ⟨q1, q2, ?_⟩
 have y1 : (zg1 s.heap b1 l1).objs.size = s.heap.objs.size + 1 := Heap.size_push ..
 have y2 : (zg2 s.heap b1 b2 l1 l2).objs.size = s.heap.objs.size + 2 := by rw [Heap.size_push, y1]
 have y3 : (zg3 s.heap b1 b2 l1 l2).objs.size = s.heap.objs.size + 3 := by rw [Heap.size_push, y2]
 have y4 : (zg4 s.heap b1 b2 l1 l2).objs.size = s.heap.objs.size + 4 := by rw [Heap.size_push, y3]
 have r5 : (zg5 s.heap b1 b2 l1 l2).get? (zg4 s.heap b1 b2 l1 l2).objs.size = some _ := Heap.get?_push_size _ rfl
 have r4 : (zg5 s.heap b1 b2 l1 l2).get? (zg3 s.heap b1 b2 l1 l2).objs.size = some _ := Heap.get?_push_of_some _ (Heap.get?_push_size _ rfl)
 have r3 : (zg5 s.heap b1 b2 l1 l2).get? (zg2 s.heap b1 b2 l1 l2).objs.size = some _ := Heap.get?_push_of_some _ (Heap.get?_push_of_some _ (Heap.get?_push_size _ rfl))
 have r2 : (zg5 s.heap b1 b2 l1 l2).get? (zg1 s.heap b1 l1).objs.size = some (mP b2 l2) := Heap.get?_push_of_some _ (Heap.get?_push_of_some _ (Heap.get?_push_of_some _ (Heap.get?_push_size _ (by cases b2 <;> rfl))))
 have r1 : (zg5 s.heap b1 b2 l1 l2).get? s.heap.objs.size = some (mP b1 l1) := Heap.get?_push_of_some _ (Heap.get?_push_of_some _ (Heap.get?_push_of_some _ (Heap.get?_push_of_some _ (Heap.get?_push_size _ (by cases b1 <;> rfl)))))
 show _ /\ _
 rw [y2, y3, y4] at r5
 rw [y1, y2] at r3
 rw [y3] at r4
 rw [y1] at r2
 rw [y4]
 refine ⟨⟨_, r5, rfl⟩, h _ r5 r3 r4 ?_ ?_ fun c o x => Heap.get?_push_of_some _ (Heap.get?_push_of_some _ (Heap.get?_push_of_some _ (Heap.get?_push_of_some _ (Heap.get?_push_of_some _ x))))⟩
 ·cases b1
  ·exact (show Heap.IsListIter _ _ _ _ from ⟨_, r1, rfl, rfl⟩)
  ·exact (show Heap.IsTupleIter _ _ _ _ from ⟨_, r1, rfl, rfl⟩)
 ·cases b2
  ·exact (show Heap.IsListIter _ _ _ _ from ⟨_, r2, rfl, rfl⟩)
  ·exact (show Heap.IsTupleIter _ _ _ _ from ⟨_, r2, rfl, rfl⟩)
end
section
variable {X : Cx} {pins : List (Addr × Obj)} {σ : St} {H : Hp} {s : Shared} {a c : Addr} {xs ys : List V} {b : Bool}
theorem Inv.seqB (I : Inv X pins σ H s) (h : SqB X.K b H a xs) : ∃ its : List Value, Vals xs its /\ SeqAt s.heap b a its.toArray := by
 cases b
 ·obtain ⟨its, r, p, _⟩ := I.list (show SqL X.K H a xs from h)
  exact ⟨its, r, p.isList⟩
 ·obtain ⟨its, r, p, _⟩ := I.tuple (show SqT X.K H a xs from h)
  exact ⟨its, r, p⟩
theorem Inv.seqB_inj (I : Inv X pins σ H s) (h : SqB X.K b H a xs) (h' : SqB X.K b H a ys) : xs = ys := by
 cases b
 ·exact I.list_inj h h'
 ·exact I.tuple_inj h h'
end
def Itz (K : PySem.W.Frag) (b1 b2 : Bool) (a1 a2 : Addr) : It :=
  ⟨fun i H => ∃ xs ys x y, SqB K b1 H a1 xs /\ SqB K b2 H a2 ys /\ xs[i]? = some x /\ ys[i]? = some y,
   fun i H x H' => ∃ T v u, x = .ref T /\ H T = none /\ H' = upd H T (.tup [v, u]) /\ (∀ xs, SqB K b1 H a1 xs -> xs[i]? = some v) /\ ∀ ys, SqB K b2 H a2 ys -> ys[i]? = some u,
   fun i H => ∃ xs ys, SqB K b1 H a1 xs /\ SqB K b2 H a2 ys /\ (xs.length <= i \/ ys.length <= i)⟩
theorem turn_zip {P : Program} {w : World} {K : PySem.W.Frag} {es : List Expr} {k : Nat} {pos : Pos} (b1 b2 : Bool) (a1 a2 z TI TO i1 i2 : Addr) (D : ZA z TI TO i1 i2) :
  Turn P w K (.Tuple es k pos) (Itz K b1 b2 a1 a2) [z, TI, TO, i1, i2] z (fun i h => IsZip h z TI TO .none /\ IsPair h TI (.ref i1) (.ref i2) /\ (∃ p q, IsPair h TO p q) /\ SItAt h b1 i1 a1 i /\ SItAt h b2 i2 a2 i) where
 mem := by simp
 obj := fun i h st b hb => by
  obtain ⟨h1, h2, ⟨p, q, h3⟩, h4, h5⟩ := st
  have hb' : b = z \/ b = TI \/ b = TO \/ b = i1 \/ b = i2 := by simpa using hb
  rcases hb' with e | e | e | e | e
  ·subst e; exact ⟨_, h1, fun v z => by
    have z' : Data.fields _ = Data.cell v := z
    cases z'⟩
  ·subst e; exact ⟨_, h2, fun v z => by
    have z' : Data.seq _ _ = Data.cell v := z
    cases z'⟩
  ·subst e; exact ⟨_, h3, fun v z => by
    have z' : Data.seq _ _ = Data.cell v := z
    cases z'⟩
  ·subst e; exact h4.there
  ·subst e; exact h5.there
 keep := fun i h h' st kk => by
  obtain ⟨h1, h2, ⟨p, q, h3⟩, h4, h5⟩ := st
  exact ⟨kk z (by simp) _ h1, kk TI (by simp) _ h2, ⟨p, q, kk TO (by simp) _ h3⟩, h4.keep fun o e => kk i1 (by simp) o e, h5.keep fun o e => kk i2 (by simp) o e⟩
 item := by
  intro X hP hw hK hc i pins s σ H E I hf st hg
  subst hP hw hK
  obtain ⟨xs, ys, x, y, q1, q2, hx, hy⟩ := hg
  obtain ⟨h1, h2, ⟨p, q, h3⟩, h4, h5⟩ := st
  obtain ⟨its, rv, p1⟩ := I.seqB q1
  obtain ⟨jts, rw', p2⟩ := I.seqB q2
  obtain ⟨u, hu, ru⟩ := rv.get hx
  obtain ⟨v, hv, rv2⟩ := rw'.get hy
  have off : ∀ {b : Bool} {a : Addr} {zs : List V}, SqB X.K b H a zs -> Off z TI TO i1 i2 a := fun hq =>
   ⟨I.away (hf z (by simp)) hq, I.away (hf TO (by simp)) hq, I.away (hf i1 (by simp)) hq, I.away (hf i2 (by simp)) hq⟩
  have hT : s.TypeIs (.ref z) "zip" := ⟨_, h1, rfl⟩
  unfold pyNext
  refine wpAny_bind (wpAny_attempt (wpAny_callSpecial?_slot (name := Str.ofString "__next__") hT F.slot_zip_next (wpAny_call_entry F.slot_zip_next hT F.entry_zip_next (zipN_item D (off q1) (off q2) h1 h2 h3 h4 h5 p1 p2 (by simpa using hu) (by simpa using hv) fun g y1 y2 y3 y4 y5 y6 => ?_) (F.args_zip_next_1 _))))
  refine wpAny_pure ⟨_, rfl, ?_⟩
  have lt : ∀ {c o}, s.heap.get? c = some o -> s.heap.objs.size ≠ c := fun e => Nat.ne_of_gt (Heap.lt_size e)
  refine wpAny_letOwnedTupleGo_zip y1 fun g2 z2 e2 => ?_
  have e2' : Heap.SameBut z g g2 := e2
  have kk : ∀ b o, b ∉ [z, TI, TO, i1, i2] -> s.heap.get? b = some o -> g2.get? b = some o := fun b o hb q => by
   have hb' : b ≠ z /\ b ≠ TI /\ b ≠ TO /\ b ≠ i1 /\ b ≠ i2 := by simpa using hb
   exact e2'.extBut _ _ hb'.1 (y6 b o hb'.1 hb'.2.2.1 hb'.2.2.2.1 hb'.2.2.2.2 q)
  have hT2 : g2.get? s.heap.objs.size = some { cls := .type "tuple", data := .seq #[u, v] } := e2'.extBut _ _ (lt h1) y5
  have new : ObjOk X.prog X.w (upd H s.heap.objs.size (.tup [x, y])) g2 s.heap.objs.size (.tup [x, y]) := ⟨by show 2 <= sizeLine; decide, [u, v], .cons ru (.cons rv2 .nil), ⟨_, hT2, rfl, _, rfl⟩⟩
  have hnT : H s.heap.objs.size = none := I.hok.fresh (Nat.le_refl _)
  refine ⟨.ref s.heap.objs.size, upd H s.heap.objs.size (.tup [x, y]), I.turnedNew kk hf (Nat.le_refl _) new, rfl, ⟨_, x, y, rfl, hnT, rfl, fun zs hz => by rw [I.seqB_inj hz q1]; exact hx, fun zs hz => by rw [I.seqB_inj hz q2]; exact hy⟩,
   ⟨z2, e2'.extBut _ _ D.a1 (y6 _ _ D.a1 D.a5 D.a6 D.a7 h2), ⟨_, _, e2'.extBut _ _ D.a2 y2⟩, y3.but e2'.extBut D.a3, y4.but e2'.extBut D.a4⟩, fun b hb => ?_⟩
  have hne : b ≠ s.heap.objs.size := by
   have hb' : b = z \/ b = TI \/ b = TO \/ b = i1 \/ b = i2 := by simpa using hb
   rcases hb' with e | e | e | e | e
   ·rw [e]; exact Ne.symm (lt h1)
   ·rw [e]; exact Ne.symm (lt h2)
   ·rw [e]; exact Ne.symm (lt h3)
   ·obtain ⟨o, q, _⟩ := h4.there; rw [e]; exact Ne.symm (lt q)
   ·obtain ⟨o, q, _⟩ := h5.there; rw [e]; exact Ne.symm (lt q)
  rw [aQ hne]
  exact (hf b hb).1
 done := by
  intro X hP hw hK hc i pins s σ H E I hf st hg
  subst hP hw hK
  obtain ⟨xs, ys, q1, q2, hx⟩ := hg
  obtain ⟨h1, h2, ⟨p, q, h3⟩, h4, h5⟩ := st
  obtain ⟨its, rv, p1⟩ := I.seqB q1
  obtain ⟨jts, rw', p2⟩ := I.seqB q2
  have off : ∀ {b : Bool} {a : Addr} {zs : List V}, SqB X.K b H a zs -> Off z TI TO i1 i2 a := fun hq =>
   ⟨I.away (hf z (by simp)) hq, I.away (hf TO (by simp)) hq, I.away (hf i1 (by simp)) hq, I.away (hf i2 (by simp)) hq⟩
  have hT : s.TypeIs (.ref z) "zip" := ⟨_, h1, rfl⟩
  have l1 := rv.length
  have l2 := rw'.length
  unfold pyNext
  refine wpAny_bind (wpAny_attempt (wpAny_callSpecial?_slot (name := Str.ofString "__next__") hT F.slot_zip_next (wpAny_call_entry F.slot_zip_next hT F.entry_zip_next
   (zipN_end (A := X.A.in1) (I.ok.hd hc) D (off q1) (off q2) h1 h2 h3 h4 h5 p1 p2 (by simp; omega) fun g e kk he => ?_) (F.args_zip_next_1 _))))
  obtain ⟨o, ho, hcc⟩ := he
  refine wpAny_bind (wpAny_isInstance (T := "StopIteration") (b := true) ⟨o, ho, hcc⟩ isSubtype_stop ?_)
  refine wpAny_pure ⟨rfl, ?_⟩
  have k2 : ∀ b o, b ∉ [z, TO, i1, i2] -> s.heap.get? b = some o -> g.get? b = some o := fun b o hb q => by
   have hb' : b ≠ z /\ b ≠ TO /\ b ≠ i1 /\ b ≠ i2 := by simpa using hb
   exact kk b o hb'.1 hb'.2.1 hb'.2.2.1 hb'.2.2.2 q
  exact I.turnedL0 (t' := s.toks) k2 fun b hb => hf b (by
   have hb' : b = z \/ b = TO \/ b = i1 \/ b = i2 := by simpa using hb
   rcases hb' with e | e | e | e <;> simp [e])
 self := fun _ _ _ _ _ st h => wpAny_pyIter_zip st.1 h
section
variable {X : Cx} {es : List Expr} {k : Nat} {tpos : Pos}
def iZip (K : PySem.W.Frag) (ta : TA) : TI := fun σ H R => ta σ H fun vs H1 => ∃ b1 b2 a1 a2, vs = [.ref a1, .ref a2] /\ (∃ xs, SqB K b1 H1 a1 xs) /\ (∃ ys, SqB K b2 H1 a2 ys) /\ R (Itz K b1 b2 a1 a2) H1
theorem fN {e e' : Expr} {ta : TA} {p pos : Pos} (hg : Gl X "zip") (hm : X.mg "zip" = none) (ha : PA X [e, e'] ta) (hs : starEach [e, e'] X.env = [(false, eval e X.env), (false, eval e' X.env)] := by rfl) (hs2 : starEach [e'] X.env = [(false, eval e' X.env)] := by rfl) :
  PI X (.Tuple es k tpos) (.Call (.Name "zip" p) [e, e'] [] pos) (iZip X.K ta) := by
 intro pins s σ H R I h
 refine Call_ (iD I hg hm (u := .type "zip") (by rfl) (PyProof.Rows.callWith_type1 (thn (ha pos pins s σ H _ I h) fun us s1 ⟨vs, H1, I1, r1, q1⟩ => ?_) (by rw [hs, hs2]) (by rw [hs2]; rfl)))
 obtain ⟨b1, b2, a1, a2, rfl, ⟨xs, h1⟩, ⟨ys, h2⟩, q⟩ := q1
 obtain ⟨u, u', rfl, r, r'⟩ := vals2 r1
 obtain rfl : u = Value.ref a1 := r
 obtain rfl : u' = Value.ref a2 := r'
 obtain ⟨its, rv, p1⟩ := I1.seqB h1
 obtain ⟨jts, rw', p2⟩ := I1.seqB h2
 refine call_zipN p1 p2 fun g y1 y2 y3 y4 y5 y6 => ?_
 refine wpAny_pyIter_zip y1 ?_
 have I2 : Inv X pins σ H1 { s1 with heap := g } := I1.kept (t' := s1.toks) y6
 have D : ZA (s1.heap.objs.size + 4) (s1.heap.objs.size + 2) (s1.heap.objs.size + 3) s1.heap.objs.size (s1.heap.objs.size + 1) := by
  constructor <;> (show (_ : Nat) ≠ _; omega)
 refine ⟨s1.heap.objs.size + 4, _, _, _, H1, rfl, I2, turn_zip b1 b2 a1 a2 _ _ _ _ _ D, ⟨y1, y2, ⟨_, _, y3⟩, y4, y5⟩, fun b hb => ?_, q⟩
 have hb' : b = s1.heap.objs.size + 4 \/ b = s1.heap.objs.size + 2 \/ b = s1.heap.objs.size + 3 \/ b = s1.heap.objs.size \/ b = s1.heap.objs.size + 1 := by simpa using hb
 have hle : s1.heap.objs.size <= b := by rcases hb' with z | z | z | z | z <;> rw [z] <;> first | exact Nat.le_add_right _ _ | exact Nat.le_refl _
 exact I1.fpOk hle (I1.hok.fresh hle)
end
theorem kF {K : PySem.W.Frag} {b1 b2 : Bool} {a1 a2 : Addr} {xs ys : List V} {g : TG} {tb : TS} {D : g9} {σ : St} {H : Hp} (Pv : Nat -> St -> Hp -> Prop) (h0 : Pv 0 σ H) (hl : ∀ i σ H, i <= min xs.length ys.length -> Pv i σ H -> SqB K b1 H a1 xs /\ SqB K b2 H a2 ys)
  (hs : ∀ i x y T σ H, xs[i]? = some x -> ys[i]? = some y -> H T = none -> Pv i σ H -> g (.ref T) σ (upd H T (.tup [x, y])) fun σ2 H2 => tb { D with nx := Pv (i + 1), ct := Pv (i + 1), bk := D.nx } σ2 H2) (hd : ∀ σ H, Pv (min xs.length ys.length) σ H -> D.nx σ H) :
  ∃ W : Nat -> Nat -> St -> Hp -> Prop, (∃ m, W 0 m σ H) /\ ∀ i m σ H, W i m σ H ->
   ((Itz K b1 b2 a1 a2).stop i H /\ D.nx σ H) \/ ((Itz K b1 b2 a1 a2).go i H /\ ∃ N : St -> Hp -> Prop, (∀ σ' H', N σ' H' -> ∃ m', m' < m /\ W (i + 1) m' σ' H') /\ ∀ x H', (Itz K b1 b2 a1 a2).yld i H x H' -> g x σ H' fun σ2 H2 => tb { D with nx := N, ct := N, bk := D.nx } σ2 H2) := by
 refine ⟨fun i m σ H => m = min xs.length ys.length - i /\ i <= min xs.length ys.length /\ Pv i σ H, ⟨min xs.length ys.length, by simp, Nat.zero_le _, h0⟩, ?_⟩
 rintro i m σ H ⟨rfl, hi, p⟩
 obtain ⟨q1, q2⟩ := hl i σ H hi p
 by_cases hlt : i < min xs.length ys.length
 ·have h1 : i < xs.length := by omega
  have h2 : i < ys.length := by omega
  refine .inr ⟨⟨xs, ys, xs[i], ys[i], q1, q2, by simp [h1], by simp [h2]⟩, Pv (i + 1), fun σ' H' p' => ⟨min xs.length ys.length - (i + 1), by omega, rfl, hlt, p'⟩, fun x H' y => ?_⟩
  obtain ⟨T, v, u, e1, e2, e3, y1, y2⟩ := y
  subst e1 e3
  exact hs i v u T σ _ (y1 xs q1) (y2 ys q2) e2 p
 ·have e : i = min xs.length ys.length := by omega
  subst e
  exact .inl ⟨⟨xs, ys, q1, q2, by omega⟩, hd σ H p⟩
end L2
namespace L2
open PySem PySem.Spec PyProof.Rows
def dC (env : Env) : List (Str × NameKind) -> List (Str × Addr) -> List (Str × Addr)
 | [], cs => cs
 | (n, k) :: r, cs => dC env r (if k == .free then (match env.cells.lookup n with | some c => (n, c) :: cs | none => cs) else cs)
theorem kU {env : Env} : ∀ {ns : List (Str × NameKind)} {cs : List (Str × Addr)} {x : Str} {c : Addr}, (∀ y d, (y, d) ∈ cs -> env.cells.lookup y = some d) -> (x, c) ∈ dC env ns cs -> env.cells.lookup x = some c
 | [], _, _, _, h, m => h _ _ m
 | (n, k) :: r, cs, x, c, h, m => by
  unfold dC at m
  refine kU (ns := r) (fun y d hm => ?_) m
  by_cases hk : (k == NameKind.free) = true
  ·rw [if_pos hk] at hm
   cases e : env.cells.lookup n with
   | none => rw [e] at hm; exact h _ _ hm
   | some a =>
    rw [e] at hm
    rcases List.mem_cons.mp hm with q | q
    ·cases q; exact e
    ·exact h _ _ q
  ·rw [if_neg hk] at hm; exact h _ _ hm
theorem oW {env : Env} : ∀ {ns : List (Str × NameKind)} {cs : List (Str × Addr)} {x : Str} {c : Addr}, (x, NameKind.free) ∈ ns \/ (x, c) ∈ cs -> env.cells.lookup x = some c -> (x, c) ∈ dC env ns cs
 | [], _, _, _, h, _ => h.elim (fun z => absurd z (by simp)) id
 | (n, k) :: r, cs, x, c, h, e => by
  unfold dC
  refine oW (ns := r) ?_ e
  rcases h with h | h
  ·rcases List.mem_cons.mp h with q | q
   ·cases q
    right
    rw [if_pos (by rfl), e]
    exact List.mem_cons_self
   ·exact .inl q
  ·right
   by_cases hk : (k == NameKind.free) = true
   ·rw [if_pos hk]
    cases env.cells.lookup n with
    | none => exact h
    | some a => exact List.mem_cons_of_mem _ h
   ·rw [if_neg hk]; exact h
theorem iL {scope : Scope} {env : Env} (h : ∀ x ∈ scope.names, x.2 = .free -> ∃ c, env.cells.lookup x.1 = some c) : closureFor scope env = pure (dC env scope.names []) := by
 have all : ∀ (ns : List (Str × NameKind)) (cs : List (Str × Addr)), (∀ x ∈ ns, x.2 = .free -> ∃ c, env.cells.lookup x.1 = some c) ->
   (forIn ns cs fun (x : Str × NameKind) (r : List (Str × Addr)) => (if x.2 == .free then do let c <- cellOf env x.1; pure (ForInStep.yield ((x.1, c) :: r)) else pure (ForInStep.yield r) : Sem _)) = pure (dC env ns cs) := by
  intro ns
  induction ns with
  | nil => intro cs _; rfl
  | cons x r ih =>
   obtain ⟨n, k⟩ := x
   intro cs hx
   rw [List.forIn_cons]
   unfold dC
   by_cases hk : (k == NameKind.free) = true
   ·have hk' : k = .free := by simpa using hk
    obtain ⟨c, e⟩ := hx (n, k) List.mem_cons_self hk'
    have e' : env.cells.lookup n = some c := e
    have e2 : cellOf env n = pure c := by unfold cellOf; rw [e']
    simp only [hk, if_true, e2, pure_bind, e']
    exact ih _ fun y hy => hx y (List.mem_cons_of_mem _ hy)
   ·simp only [hk, Bool.false_eq_true, if_false, pure_bind]
    exact ih _ fun y hy => hx y (List.mem_cons_of_mem _ hy)
 have := all scope.names [] h
 simp only [closureFor]
 first
  | exact (bind_congr fun _ => rfl).trans (by rw [this, pure_bind])
  | (show (forIn scope.names [] _ >>= _) = _; rw [show (forIn scope.names ([] : List (Str × Addr)) _) = _ from this]; rfl)
  | (rw [this]; rfl)
  | exact this
theorem lookup_mem {x : Str} {c : Addr} : ∀ {cs : List (Str × Addr)}, cs.lookup x = some c -> (x, c) ∈ cs := fun h => PySem.mem_of_lookup h
theorem lA {x : Str} {c : Addr} : ∀ {cs : List (Str × Addr)}, (x, c) ∈ cs -> (∀ d, (x, d) ∈ cs -> d = c) -> cs.lookup x = some c
 | [], h, _ => absurd h (by simp)
 | (y, d) :: r, h, u => by
  rw [List.lookup_cons]
  cases e : x == y with
  | true =>
   have e' : x = y := by simpa using e
   subst e'
   simp only
   rw [u d List.mem_cons_self]
  | false =>
   simp only
   refine lA ?_ fun d' hd => u d' (List.mem_cons_of_mem _ hd)
   rcases List.mem_cons.mp h with q | q
   ·cases q; simp at e
   ·exact q
def blk (X : Cx) (scope : Scope) (NB : List Str) (C : Addr) (s : Shared) (H : Hp) (fp : List Addr) : Cx where
 prog := X.prog
 w := X.w
 K := X.K
 mg := X.mg
 base := X.base
 A := X.A
 N := NB
 s₀ := s
 H₀ := H
 env := compEnvC scope (dC X.env scope.names []) C X.env
 outer := X.stack
 stack := X.stack
 ex := fp
 fn := fun _ => false
 calm := X.calm
 pn := []
 xe := fun _ _ => False
def aX (fr : List (Option Nat)) (σ : St) : St := fr.map fun o => match o with | some j => (σ[j]?).getD none | none => none
def relS (scope sc : Scope) : Scope :=
 { scope with names := scope.names.map fun (n, k) => if (k == .free && sc.kind == .function && sc.names.lookup n == some .cell) then (n, .cell) else (n, k) }
structure BlkOk (sc : Scope) (N : List Str) (scope : Scope) (NB : List Str) (fr : List (Option Nat)) : Prop where
 kind : scope.kind = .function
 cell : ∀ y ∈ scope.names, y.2 ≠ .cell
 names : ∀ x ∈ scope.names, x.2 = .local -> scope.names.lookup x.1 = some .local
 free : ∀ x ∈ scope.names, x.2 = .free -> sc.names.lookup x.1 = some .cell \/ sc.names.lookup x.1 = some .free
 len : NB.length = fr.length
 bind : ∀ p ∈ fr.zip NB, ∀ j ∈ p.1, N[j]? = some p.2 /\ (p.2, NameKind.free) ∈ scope.names /\ ((relS scope sc).names.lookup p.2 = some .cell \/ (relS scope sc).names.lookup p.2 = some .free)
instance {sc : Scope} {N : List Str} {scope : Scope} {NB : List Str} {fr : List (Option Nat)} : Decidable (BlkOk sc N scope NB fr) :=
 decidable_of_iff ((scope.kind = .function /\ ∀ y ∈ scope.names, y.2 ≠ .cell) /\ ((∀ x ∈ scope.names, x.2 = .local -> scope.names.lookup x.1 = some .local) /\ ∀ x ∈ scope.names, x.2 = .free -> sc.names.lookup x.1 = some .cell \/ sc.names.lookup x.1 = some .free) /\
  NB.length = fr.length /\ ∀ p ∈ fr.zip NB, ∀ j ∈ p.1, N[j]? = some p.2 /\ (p.2, NameKind.free) ∈ scope.names /\ ((relS scope sc).names.lookup p.2 = some .cell \/ (relS scope sc).names.lookup p.2 = some .free))
  ⟨fun ⟨⟨a, b⟩, ⟨c, d⟩, e, f⟩ => ⟨a, b, c, d, e, f⟩, fun ⟨a, b, c, d, e, f⟩ => ⟨⟨a, b⟩, ⟨c, d⟩, e, f⟩⟩
theorem eU {env : Env} {x : Str} : ∀ {names : List (Str × NameKind)} {k : NameKind}, (names.map fun (n, k) => if (k == NameKind.free && env.scope.kind == .function && env.kindOf n == some .cell) then (n, NameKind.cell) else (n, k)).lookup x = some k ->
  (k = .cell \/ k = .free) -> (∀ y ∈ names, y.2 ≠ .cell) -> (x, NameKind.free) ∈ names
 | [], k, h, _, _ => by simp at h
 | (n, k0) :: r, k, h, hk, hc => by
  have hc' : ∀ y ∈ r, y.2 ≠ .cell := fun y hy => hc y (List.mem_cons_of_mem _ hy)
  by_cases e : (x == n) = true
  ·have e' : x = n := by simpa using e
   subst e'
   by_cases hc0 : (k0 == NameKind.free && env.scope.kind == .function && env.kindOf x == some .cell) = true
   ·have : k0 = .free := by
     rw [Bool.and_eq_true, Bool.and_eq_true] at hc0
     simpa using hc0.1.1
    rw [this]; exact List.mem_cons_self
   ·rw [List.map_cons] at h
    simp only [hc0, if_false, Bool.false_eq_true] at h
    rw [List.lookup_cons, e] at h
    have h' : k0 = k := by simpa using h
    subst h'
    rcases hk with z | z
    ·exact absurd z (hc (x, k0) List.mem_cons_self)
    ·rw [z]; exact List.mem_cons_self
  ·have e' : (x == n) = false := by simpa using e
   rw [List.map_cons] at h
   refine List.mem_cons_of_mem _ (eU (env := env) (names := r) (k := k) ?_ hk hc')
   by_cases hc0 : (k0 == NameKind.free && env.scope.kind == .function && env.kindOf n == some .cell) = true
   ·simp only [hc0, if_true] at h
    rw [List.lookup_cons, e'] at h
    exact h
   ·simp only [hc0, if_false, Bool.false_eq_true] at h
    rw [List.lookup_cons, e'] at h
    exact h
section
variable {X : Cx} {pins : List (Addr × Obj)} {σ : St} {H : Hp} {s : Shared} {scope : Scope} {NB : List Str} {fr : List (Option Nat)} {fp : List Addr}
theorem BlkOk.closed (B : BlkOk X.env.scope X.N scope NB fr) (I : Inv X pins σ H s) : ∀ x ∈ scope.names, x.2 = .free -> ∃ c, X.env.cells.lookup x.1 = some c := fun x hx hf => I.ok.has x.1 (B.free x hx hf)
theorem BlkOk.look (B : BlkOk X.env.scope X.N scope NB fr) (I : Inv X pins σ H s) {x : Str} (hx : (x, NameKind.free) ∈ scope.names) : ∃ c, X.env.cells.lookup x = some c /\ (dC X.env scope.names []).lookup x = some c := by
 obtain ⟨c, e⟩ := B.closed I _ hx rfl
 refine ⟨c, e, lA (oW (.inl hx) e) fun d hd => ?_⟩
 have := kU (fun _ _ z => absurd z (by simp)) hd
 rw [e] at this
 exact (Option.some.inj this).symm
theorem gS {x : Str} {c : Addr} (h : (dC X.env scope.names []).lookup x = some c) : X.env.cells.lookup x = some c := kU (fun _ _ z => absurd z (by simp)) (lookup_mem h)
theorem blk_start {h1 : Heap} {tk : Nat} {C : Addr} {m : Str -> Option Value} (B : BlkOk X.env.scope X.N scope NB fr) (I : Inv X pins σ H s) (hf : ∀ b ∈ fp, fJ X pins H b /\ b < s.heap.objs.size) (hC : s.heap.objs.size <= C)
  (k : ∀ b o, s.heap.get? b = some o -> h1.get? b = some o) (hn : h1.Ns C m) :
  Inv (blk X scope NB C s H fp) [] (aX fr σ) H { s with heap := h1, toks := tk } := by
 have hk : (relabel scope X.env).kind = .function := B.kind
 refine ⟨⟨I.ok.mod, hk, I.ok.glob, I.ok.blt, hC, fun x y c e1 e2 => I.ok.inj x y c (gS e1) (gS e2), fun x hx => ?_, fun x c hfn _ => absurd hfn (by simp [blk]), I.ok.hd, I.ok.frames, .inl rfl, fun b hb => ⟨?_, fun x c e => ?_⟩, I.bs, Nat.le_trans I.ok.bsz I.sz, fun b o e hb => ?_, fun b hb => ?_, I.stack, I.stkFree⟩,
  rfl, I.bare, Un.kept k, ⟨m, hn, fun i x v e1 e2 e3 => ?_⟩, fun x c e => ?_, I.hok.fresh hC, fun x c e => I.freeC x c (gS e), fun p hp => absurd (show p ∈ ([] : List (Addr × Obj)) from hp) (by simp), I.hok.kept k, ?_⟩
 ·have hx' : (relabel scope X.env).names.lookup x = some .cell \/ (relabel scope X.env).names.lookup x = some .free := hx
  have hm : (x, NameKind.free) ∈ scope.names := by
   rcases hx' with z | z
   ·exact eU z (.inl rfl) B.cell
   ·exact eU z (.inr rfl) B.cell
  obtain ⟨c, _, e⟩ := B.look I hm
  exact ⟨c, e⟩
 ·exact Nat.ne_of_lt (Nat.lt_of_lt_of_le (hf b hb).2 hC)
 ·exact (hf b hb).1.2.2.2.2.1 x c (gS e)
 ·rcases (hf b hb).1.2.2.2.1 with z | z
  ·exact I.ok.noex b o e z
  ·exact absurd (Nat.lt_of_lt_of_le (Heap.lt_size (I.ok.bs b o e).1) z) (Nat.lt_irrefl _)
 ·intro z
  rcases List.mem_cons.mp (I.stkSub b z) with q | q
  ·exact (hf b hb).1.2.1 q
  ·exact (hf b hb).1.2.2.1 q
 ·-- a name that is closed over
  obtain ⟨mX, hnX, hlX⟩ := I.loc
  have e2' : ∃ j, fr[i]? = some (some j) /\ σ[j]? = some (some v) := by
   unfold aX at e2
   rw [List.getElem?_map] at e2
   cases q : fr[i]? with
   | none => rw [q] at e2; cases e2
   | some o =>
    rw [q] at e2
    cases o with
    | none => simp at e2
    | some j =>
     refine ⟨j, rfl, ?_⟩
     have e2 : (σ[j]?).getD none = some v := by simpa using e2
     cases q2 : σ[j]? with
     | none => rw [q2] at e2; cases e2
     | some w => rw [q2] at e2; simp at e2; rw [e2]
  obtain ⟨j, hj, hs⟩ := e2'
  have hz : (some j, x) ∈ fr.zip NB := List.mem_of_getElem? (i := i) (by rw [List.getElem?_zip_eq_some]; exact ⟨hj, e1⟩)
  obtain ⟨hy2, hy3, kd'⟩ := B.bind _ hz j rfl
  have vis : Vis X.env.scope x := by
   rcases B.free _ hy3 rfl with z | z
   ·exact .inr (.inl z)
   ·exact .inr (.inr z)
  obtain ⟨u, ru, lk⟩ := hlX j x v hy2 hs vis
  refine ⟨u, ru, ?_⟩
  obtain ⟨c, ec1, ec2⟩ := B.look I hy3
  have kd : (compEnvC scope (dC X.env scope.names []) C X.env).kindOf x = some .cell \/ (compEnvC scope (dC X.env scope.names []) C X.env).kindOf x = some .free := kd'
  refine .inr ⟨kd, c, ec2, ?_⟩
  rcases lk with ⟨q1, q2⟩ | ⟨_, c', q2, q3⟩
  ·exfalso
   rcases B.free _ hy3 rfl with t | t
   ·rw [show X.env.kindOf x = some .cell from t] at q1; cases q1
   ·rw [show X.env.kindOf x = some .free from t] at q1; cases q1
  ·rw [ec1] at q2
   cases q2
   obtain ⟨o, ho, hd⟩ := q3
   exact ⟨o, k _ _ ho, hd⟩
 ·obtain ⟨v, o, ho, hd⟩ := I.cell x c (gS e)
  exact ⟨v, o, k _ _ ho, hd⟩
 ·unfold aX
  rw [List.length_map]
  exact B.len.symm
end
section
variable {prog : Program} {w : World} {A : Around} {E : Value -> Shared -> Prop} {s : Shared}
theorem comp_turns {elt tg iter : Expr} {ifs : List Expr} {scope : Scope} {pos : Pos} {it acc : Value} {env : Env} {R : Result -> Shared -> Prop} (J : Nat -> Shared -> Prop)
  (turn : ∀ n s, J n s -> wpAny (model prog w) A (pyNext it) (fun r s1 => match r with
   | none => R (.ok .next) s1
   | some v => wpAny (model prog w) A (letOwnedTupleGo tg it v) (fun _ s2 => wpAny (model prog w) A (assign tg env v) (fun _ s3 =>
     wpAny (model prog w) A (forIn ifs true fun c r => if r = true then do let ok <- isTrue c env (eval c env); pure (ForInStep.yield ok) else pure (ForInStep.yield r)) (fun ok s4 =>
      if ok = true then wpAny (model prog w) A (eval elt env) (fun x s5 => wpAny (model prog w) A (call (.builtin "list.append") [acc, x]) (fun _ s6 => ∃ m, m < n /\ J m s6) (fun _ _ => False) s5) (fun _ _ => False) s4
      else ∃ m, m < n /\ J m s4) (fun _ _ => False) s3) (fun _ _ => False) s2) (fun _ _ => False) s1) (fun _ _ => False) s)
  (n : Nat) (h : J n s) : codeAny (model prog w) A (.compLoop (.ListComp elt [⟨tg, iter, ifs, 0⟩] scope pos) 0 it acc env) R s := by
 refine codeAny_loop rfl J (fun n s hJ => ?_) n h
 show wpAny _ A ((compTurn (.ListComp elt [⟨tg, iter, ifs, 0⟩] scope pos) 0 it acc env).onRaise _) _ _ s
 refine wpAny_noted ?_
 rw [compTurn_list]
 refine wpAny_bind (wpAny_standAt (wpAny_bind (wpAny_mono (turn n s hJ) (fun r s1 h1 => ?_) fun _ _ z => z.elim)))
 cases r with
 | none => exact wpAny_pure h1
 | some v =>
  refine wpAny_bind (wpAny_mono h1 (fun _ s2 h2 => wpAny_bind (wpAny_mono h2 (fun _ s3 h3 => wpAny_bind (wpAny_mono h3 (fun ok s4 h4 => ?_) fun _ _ z => z.elim)) fun _ _ z => z.elim)) fun _ _ z => z.elim)
  cases ok with
  | false => exact wpAny_pure ⟨rfl, h4⟩
  | true => exact wpAny_bind (wpAny_bind (wpAny_mono h4 (fun x s5 h5 => wpAny_bind (wpAny_mono h5 (fun _ s6 h6 => wpAny_pure (wpAny_pure ⟨rfl, h6⟩)) fun _ _ z => z.elim)) fun _ _ z => z.elim))
end
def Wk (σ σ2 : St) : Prop := σ2.length = σ.length /\ ∀ (i : Nat) v, σ[i]? = some (some v) -> σ2[i]? = some (some v)
def eJ (fr : List (Option Nat)) (g : TG) (tc : TT) (te : TE) (D : Addr) (J : It) (σ : St) (H1 : Hp) (Q : VK) : Prop :=
  ∃ W : Nat -> Nat -> List V -> Hp -> Prop, (∃ m, W 0 m [] (upd H1 D (.lst []))) /\ ∀ i m ys H, W i m ys H -> H D = some (.lst ys) /\
    ((J.stop i H /\ Q (.ref D) H) \/ (J.go i H /\ ys.length < sizeLine /\ ∃ N : List V -> Hp -> Prop, (∀ ys' H', N ys' H' -> ∃ m', m' < m /\ W (i + 1) m' ys' H') /\
      ∀ x H', J.yld i H x H' -> g x (aX fr σ) H' fun σ2 H2 => Wk (aX fr σ) σ2 /\ tc σ2 H2 fun b H3 => if b = true then te σ2 H3 fun y H4 => H4 D = some (.lst ys) /\ N (ys ++ [y]) (upd H4 D (.lst (ys ++ [y]))) else N ys H3))
def tComp (fr : List (Option Nat)) (wi : TI) (g : TG) (tc : TT) (te : TE) : TE := fun σ H Q => wi σ H fun J H1 => ∀ D, H1 D = none -> eJ fr g tc te D J σ H1 Q
def tYes : TT := fun _ H Q => Q true H
inductive PIfs (Y : Cx) : List Expr -> TT -> Prop where
 | nil : PIfs Y [] tYes
 | one {c : Expr} {t : TT} : PT Y c t -> PIfs Y [c] t
section
variable {X : Cx} {scope : Scope} {NB : List Str} {fr : List (Option Nat)} {elt tg iter : Expr} {ifs : List Expr} {pos : Pos} {wi : TI} {g : TG} {tc : TT} {te : TE}
theorem Inv.lost {pins : List (Addr × Obj)} {σ : St} {H : Hp} {s : Shared} {h' : Heap} {C : Addr} (I : Inv X pins σ H s) (hs : Heap.SameBut C s.heap h') (f : fJ X pins H C) : Inv X pins σ H { s with heap := h' } :=
 I.turned (t' := s.toks) (fun b o hb e => (hs.2 b hb).trans e) f.1 f.2.1 f.2.2.2.1 f.2.2.2.2.1 f.2.2.2.2.2
theorem blk_run (hcalm : X.calm = true) (B : BlkOk X.env.scope X.N scope NB fr) (hg : ∀ C s H fp, PG (blk X scope NB C s H fp) tg g) (hif : ∀ C s H fp, PIfs (blk X scope NB C s H fp) ifs tc) (he : ∀ C s H fp, PE (blk X scope NB C s H fp) elt te)
  {pins : List (Addr × Obj)} {σ : St} {Q : VK} {E : Value -> Shared -> Prop} {itv : Value} {s2 : Shared} (h2 : PIE X pins σ tg (fun J H1 => ∀ D, H1 D = none -> eJ fr g tc te D J σ H1 Q) itv s2)
  {RR : Value -> Addr -> Result -> Shared -> Prop}
  (hRR : ∀ D C H' s', Inv X pins σ H' s' -> fJ X pins H' C -> (∃ m, s'.heap.Ns C m) -> Q (.ref D) H' -> RR (.ref D) C (.ok .next) s') :
  wpAny (model X.prog X.w) X.A (newList []) (fun acc s3 => wpAny (model X.prog X.w) X.A (newFunctionEnv scope X.env.globals (dC X.env scope.names []) [] X.env.qual none .none (some X.env)) (fun cenv s4 =>
   codeAny (model X.prog X.w) X.A (.compStart (.ListComp elt [⟨tg, iter, ifs, 0⟩] scope pos) 0 itv acc { cenv with scope := relabel scope X.env }) (RR acc cenv.locals) s4) E s3) E s2 := by
 obtain ⟨it, fp, tn, J, H2, rfl, I2, T, st2, f2, q2⟩ := h2
 refine wpAny_newObj_type ?_
 have hD : H2 s2.heap.objs.size = none := I2.hok.fresh (Nat.le_refl _)
 have I3 : Inv X pins σ (upd H2 s2.heap.objs.size (.lst [])) { s2 with heap := s2.heap.push { cls := .type "list", data := .seq ([] : List Value).toArray } } :=
  I2.laid (t' := s2.toks) (fun b u e => Heap.get?_push_of_some _ e) (Nat.le_refl _) ⟨by show 0 <= sizeLine; decide, [], 0, .nil, Heap.get?_push_size _ rfl⟩
 obtain ⟨W, ⟨m0, w0⟩, turn⟩ := q2 s2.heap.objs.size hD
 generalize hDe : s2.heap.objs.size = D at *
 generalize hH3 : upd H2 D (.lst []) = H3 at *
 generalize hg3 : s2.heap.push { cls := .type "list", data := .seq ([] : List Value).toArray } = g3 at *
 have up3 : ∀ b o, s2.heap.get? b = some o -> g3.get? b = some o := fun b o e => by rw [<- hg3]; exact Heap.get?_push_of_some _ e
 have sz3 : g3.objs.size = D + 1 := by rw [<- hg3, Heap.size_push, hDe]
 have st3 : tn 0 g3 := T.keep _ _ _ st2 fun b _ o e => up3 b o e
 have fl : ∀ b ∈ fp, b < g3.objs.size := fun b hb => by
  obtain ⟨o, e, _⟩ := T.obj _ _ st3 b hb
  exact Heap.lt_size e
 have nD : ∀ b ∈ fp, b ≠ D := fun b hb => by
  obtain ⟨o, e, _⟩ := T.obj _ _ st2 b hb
  have := Heap.lt_size e
  rw [hDe] at this
  exact Nat.ne_of_lt this
 have f3 : ∀ b ∈ fp, fJ X pins H3 b := fun b hb => ⟨by rw [<- hH3, aQ (nD b hb)]; exact (f2 b hb).1, (f2 b hb).2⟩
 refine wpAny_newFunctionEnv B.cell (by intro y hy; simp at hy) (fun h1 hn1 hs1 => ?_) B.kind
 dsimp only at hn1 hs1 ⊢
 have up4 : ∀ b o, g3.get? b = some o -> h1.get? b = some o := fun b o e => hs1.extBut b o (Nat.ne_of_lt (Heap.lt_size e)) (Heap.get?_push_of_some _ e)
 have st4 : tn 0 h1 := T.keep _ _ _ st3 fun b _ o e => up4 b o e
 have J0 : Inv (blk X scope NB g3.objs.size { s2 with heap := g3 } H3 fp) [] (aX fr σ) H3 { s2 with heap := h1, toks := s2.toks + ([] : List (Str × Value)).length } :=
  blk_start (s := { s2 with heap := g3 }) (fp := fp) B I3 (fun b hb => ⟨f3 b hb, fl b hb⟩) (Nat.le_refl _) up4 hn1
 have fpY : ∀ {H' : Hp}, (∀ b ∈ fp, H' b = none) -> ∀ b ∈ fp, fJ (blk X scope NB g3.objs.size { s2 with heap := g3 } H3 fp) [] H' b := fun hn b hb =>
  ⟨hn b hb, Nat.ne_of_lt (fl b hb), J0.ok.exfs b hb, .inl hb, fun x c e => (f3 b hb).2.2.2.2.1 x c (gS e), fun p hp => absurd (show p ∈ ([] : List (Addr × Obj)) from hp) (by simp)⟩
 have back : ∀ {σ' : St} {H' : Hp} {s' : Shared}, Inv (blk X scope NB g3.objs.size { s2 with heap := g3 } H3 fp) [] σ' H' s' -> Inv X pins σ H' s' /\ fJ X pins H' g3.objs.size /\ ∃ m, s'.heap.Ns g3.objs.size m := fun {σ' H' s'} K => by
  refine ⟨I3.call' (ch := fp) K.os K.base K.hok K.bare fun b hb => ⟨(f3 b hb).2.2.2.1, (f3 b hb).2.1, (f3 b hb).2.2.2.2.1, (f3 b hb).2.2.2.2.2⟩, ?_, ?_⟩
  ·exact I3.fpOk (Nat.le_refl _) K.free
  ·obtain ⟨m, hm, _⟩ := K.loc
   exact ⟨m, hm⟩
 have loop : ∀ s3 : Shared, s3 = { s2 with heap := h1, toks := s2.toks + ([] : List (Str × Value)).length } ->
   codeAny (model X.prog X.w) X.A (.compLoop (.ListComp elt [⟨tg, iter, ifs, 0⟩] scope pos) 0 (.ref it) (.ref D) (compEnvC scope (dC X.env scope.names []) g3.objs.size X.env)) (RR (.ref D) g3.objs.size) s3 := by
  rintro s3 rfl
  refine comp_turns (fun n s' => ∃ i ys H', Inv (blk X scope NB g3.objs.size { s2 with heap := g3 } H3 fp) [] (aX fr σ) H' s' /\ tn i s'.heap /\ (∀ b ∈ fp, H' b = none) /\ W i n ys H') ?_ m0 ⟨0, [], H3, J0, st4, fun b hb => (f3 b hb).1, w0⟩
  rintro n s3 ⟨i, ys, H4, J4, st, fr4, w4⟩
  obtain ⟨hl4, alt⟩ := turn i n ys H4 w4
  rcases alt with ⟨stop, qn⟩ | ⟨go, hlen, N, hN, step⟩
  ·refine thn (T.done (blk X scope NB g3.objs.size { s2 with heap := g3 } H3 fp) rfl rfl rfl hcalm i [] s3 (aX fr σ) H4 (fun _ _ => False) J4 (fpY fr4) st stop) fun r s5 ⟨hr, J5⟩ => ?_
   subst hr
   obtain ⟨K1, K2, K3⟩ := back J5
   exact hRR D g3.objs.size H4 s5 K1 K2 K3 qn
  ·refine thn (T.item (blk X scope NB g3.objs.size { s2 with heap := g3 } H3 fp) rfl rfl rfl hcalm i [] s3 (aX fr σ) H4 (fun _ _ => False) J4 (fpY fr4) st go) fun r s5 ⟨u, hr, h5⟩ => ?_
   subst hr
   refine thn h5 fun _ s6 ⟨x, H6, J6, r6, y6, st6, fr6⟩ => ?_
   have J6' := J6.pinned (fpY fr6) (T.obj _ _ st6)
   refine thn (hg _ _ _ _ _ s6 (aX fr σ) H6 x u _ J6' r6 (step x H6 y6)) fun _ s7 ⟨σ7, H7, J7, wk, q7⟩ => ?_
   have again : ∀ {ys' : List V} {H8 : Hp} {s8 : Shared}, Inv (blk X scope NB g3.objs.size { s2 with heap := g3 } H3 fp) ([] ++ kC fp s6.heap) σ7 H8 s8 -> N ys' H8 ->
     ∃ m, m < n /\ ∃ i ys H', Inv (blk X scope NB g3.objs.size { s2 with heap := g3 } H3 fp) [] (aX fr σ) H' s8 /\ tn i s8.heap /\ (∀ b ∈ fp, H' b = none) /\ W i m ys H' := fun {ys' H8 s8} J8 n8 => by
    obtain ⟨m', hm, w8⟩ := hN ys' H8 n8
    refine ⟨m', hm, i + 1, ys', H8, J8.unpinned.weak wk.1.symm wk.2, T.keep _ _ _ st6 fun b hb o e => (J8.pin (b, o) (List.mem_append_right _ (List.mem_append_right _ (iR hb e)))).1, fun b hb => ?_, w8⟩
    obtain ⟨o, e, d⟩ := T.obj _ _ st6 b hb
    exact (J8.pin (b, o) (List.mem_append_right _ (List.mem_append_right _ (iR hb e)))).2.1
   have tests : wpAny (model X.prog X.w) X.A (forIn ifs true fun c r => if r = true then do let ok <- isTrue c (compEnvC scope (dC X.env scope.names []) g3.objs.size X.env) (eval c (compEnvC scope (dC X.env scope.names []) g3.objs.size X.env)); pure (ForInStep.yield ok) else pure (ForInStep.yield r))
     (TP (blk X scope NB g3.objs.size { s2 with heap := g3 } H3 fp) ([] ++ kC fp s6.heap) σ7 fun b H3' => if b = true then te σ7 H3' fun y H4' => H4' D = some (.lst ys) /\ N (ys ++ [y]) (upd H4' D (.lst (ys ++ [y]))) else N ys H3') (fun _ _ => False) s7 := by
    generalize hif g3.objs.size { s2 with heap := g3 } H3 fp = PF
    cases PF with
    | nil => exact wpAny_tests_nil ⟨H7, J7, q7⟩
    | one hpt => exact wpAny_tests_one (hpt _ s7 σ7 H7 _ J7 q7)
   refine thn tests fun ok s8 ⟨H8, J8, q8⟩ => ?_
   cases ok with
   | false => exact again J8 q8
   | true =>
    rw [if_pos rfl]
    refine thn (he _ _ _ _ _ s8 σ7 H8 _ J8 q8) fun y s9 ⟨yv, H9, J9, r9, hD9, n9⟩ => ?_
    refine thn (cX (X := blk X scope NB g3.objs.size { s2 with heap := g3 } H3 fp) _ s9 σ7 H9 (.ref D) [yv] (.ref D) [y] (fun v H' => v = .non /\ N (ys ++ [yv]) H') J9 rfl (.cons r9 .nil) ⟨D, ys, yv, rfl, rfl, hD9, hlen, rfl, n9⟩) fun _ s10 ⟨_, H10, J10, _, _, n10⟩ => ?_
    exact again J10 n10
 exact codeAny_compStart_list (loop _ rfl) (T.self _ 0 _ _ _ st4 (loop _ rfl))
theorem bQ {sc : Scope} {N : List Str} (hcalm : X.calm = true) (B' : BlkOk sc N scope NB fr) (hi : PI X tg iter wi) (hg : ∀ C s H fp, PG (blk X scope NB C s H fp) tg g) (hif : ∀ C s H fp, PIfs (blk X scope NB C s H fp) ifs tc) (he : ∀ C s H fp, PE (blk X scope NB C s H fp) elt te)
  (hs : ∀ x, foldedSetIterable iter X.env x = pure x := by intro _; rfl) (hsc : X.env.scope = sc := by rfl) (hNN : X.N = N := by rfl) : PE X (.ListComp elt [⟨tg, iter, ifs, 0⟩] scope pos) (tComp fr wi g tc te) := by
 have B : BlkOk X.env.scope X.N scope NB fr := by rw [hsc, hNN]; exact B'
 intro pins s σ H Q I h
 rw [eval_ListComp]
 refine wpAny_comprehension_free (use := none) rfl hs (iL (B.closed I)) B.kind B.names (thn (hi pins s σ H _ I h) fun v s1 h1 => thn h1 fun itv s2 h2 => ?_)
 refine blk_run hcalm B hg hif he h2 (RR := fun acc C => compPost (model X.prog X.w) X.A X.xe none (EP X pins σ Q) acc C) fun D C H' s' I' f ⟨m, hm⟩ q => ?_
 exact ⟨m, hm, fun h'' hs'' => ⟨.ref D, H', I'.lost hs'' f, rfl, q⟩⟩
theorem dU {sc : Scope} {N : List Str} {i : Nat} {x : Str} {px spos : Pos} (hN : X.N.Nodup) (hix : X.N[i]? = some x) (hx : X.env.scope.names.lookup x = some .local) (hcalm : X.calm = true) (B' : BlkOk sc N scope NB fr) (hi : PI X tg iter wi)
  (hg : ∀ C s H fp, PG (blk X scope NB C s H fp) tg g) (hif : ∀ C s H fp, PIfs (blk X scope NB C s H fp) ifs tc) (he : ∀ C s H fp, PE (blk X scope NB C s H fp) elt te)
  (hsw : swapsWith (.ListComp elt [⟨tg, iter, ifs, 0⟩] scope pos) (some (.Name x px)) spos.line X.env = pure true := by rfl)
  (hs : ∀ x, foldedSetIterable iter X.env x = pure x := by intro _; rfl) (hsc : X.env.scope = sc := by rfl) (hNN : X.N = N := by rfl) : PS X (.Assign [.Name x px] (.ListComp elt [⟨tg, iter, ifs, 0⟩] scope pos) spos) (tAsg (tComp fr wi g tc te) (gName i)) := by
 have B : BlkOk X.env.scope X.N scope NB fr := by rw [hsc, hNN]; exact B'
 intro pins s σ H D I h
 rw [exec_Assign_Name_used _ _ _ _ hsw]
 refine wpAny_bind (wpAny_standAt (wpAny_bind ?_))
 show wpAny _ _ (do let _ <- comprehension (.ListComp elt [⟨tg, iter, ifs, 0⟩] scope pos) scope X.env _ (newList []) false (eval iter X.env) (some (assign (.Name x px) X.env))) _ _ s
 refine wpAny_bind (wpAny_mono (wpAny_comprehension_free (use := some (assign (.Name x px) X.env)) (Q := fun _ s' => SP X pins D .next s') rfl hs (iL (B.closed I)) B.kind B.names
  (thn (hi pins s σ H _ I h) fun v s1 h1 => thn h1 fun itv s2 h2 => ?_)) (fun _ s' hq => wpAny_pure (wpAny_pure hq)) fun _ _ z => z)
 refine blk_run hcalm B hg hif he h2 (RR := fun acc C => compPost (model X.prog X.w) X.A X.xe (some (assign (.Name x px) X.env)) (fun _ s' => SP X pins D .next s') acc C) fun Dl C H' s' I' f ⟨m, hm⟩ q => ?_
 show wpAny _ _ (assign (.Name x px) X.env (.ref Dl)) _ _ _
 refine wpAny_assign_Name (p9 I' hN hix (.inl hx) (v := .ref Dl) rfl (fun s3 I3 ⟨a, hs3, ha⟩ => ?_) (.inr hx))
 have ne : C ≠ a := by
  rcases ha with e | e
  ·rw [e]; exact f.2.1
  ·exact fun z => f.2.2.2.2.1 x a e z.symm
 exact ⟨m, hm.sameBut hs3 ne, fun h'' hs'' => ⟨_, H', I3.lost hs'' f, q⟩⟩
end
end L2
namespace L2
open PySem PySem.Spec PyProof.Rows
structure Cal (P : Program) (w : World) (K : PySem.W.Frag) (mg : Str -> Option Value) (base : Heap) (k : Nat) (x : Str) (ps : List Str) (sp : Sp) : Prop where
 ex : ∃ f fd, FnOk P w K mg base CX0 k f fd ps sp /\ mg x = some (.ref f) /\ PySem.W.keepIn K (.ref f) = true /\ Binds K fd ps []
section
variable {X : Cx} {k : Nat} {x : Str} {ps : List Str} {sp : Sp} {p pos : Pos} {e : Expr} {es : List Expr} {t : TA}
theorem aR (C : Cal X.prog X.w X.K X.mg X.base k x ps sp) (hr : Room k X.A) (hg : Gl X x) (ha : PA X (e :: es) t) (hdb : (x == ("__debug__" : Str)) = false := by decide)
  (he : starEach (e :: es) X.env = (false, eval e X.env) :: starEach es X.env := by rfl) (hpl : (backTo pos (starEach es X.env)).any (·.1) = false := by rfl) : PE X (.Call (.Name x p) (e :: es) [] pos) (tCall sp [] E0 t) := by
 obtain ⟨f, fd, G, m, kk, b⟩ := C.ex
 exact pe_call G hr hg m kk b .nil pass0 ha hdb he hpl
end
structure Txt (BN : List Str) (mg : Str -> Option Value) : Prop where
 nb : ∀ x ∈ BN, mg x = none
def CDivP (_ j : Int) : Prop := 0 < j /\ Bits 9000 j
section
variable {X : Cx}
theorem cA : OpR X (binaryOp .FloorDiv) (rI CDivP fun i j => .int (i / j)) := opI fun i j _ _ _ _ _ hc q => by
 have h1 : (0 : Int) < j := hc.1
 exact floordiv_int (by omega) (by rw [Int.fdiv_eq_ediv_of_nonneg i (by omega)]; exact q) (.inl (PyProof.noPylong_of_log2 (hc.2.log2 (by decide))))
def clsV : V -> Option Value
 | .ty n => some (.type n)
 | .ref C => some (.ref C)
 | _ => none
theorem clsV_rel {c : V} {u cv : Value} (h : clsV c = some cv) (r : RelV c u) : u = cv := by
 cases c with
 | ty n => cases h; exact r
 | ref C => cases h; exact r
 | _ => cases h
theorem pe_ty {BN : List Str} {pos : Pos} (T : Txt BN X.mg) (n : String) (hg : Gl X (Str.ofString n) := by rfl) (hn : Str.ofString n ∈ BN := by decide) (hv : bootBuiltins (Str.ofString n) = some (.type n) := by decide +kernel)
  (h1 : Str.ofString n ≠ "__name__" := by decide) (h2 : (Str.ofString n == ("__debug__" : Str)) = false := by decide) : PE X (.Name (Str.ofString n) pos) (tC (.ty n)) := pe_bltn hg (T.nb _ hn) hv rfl h1 h2
theorem mB (hc : X.calm = true) : dX X (.builtin "sum") (fun xs H Q => ∃ (a : Addr) (ns : List Int), xs = [.ref a] /\ SqL X.K H a (ns.map V.int) /\ Q (.int ns.sum) H) := by
 intro pins s σ H xs us Q I r h
 obtain ⟨a, ns, rfl, hs, q⟩ := h
 obtain ⟨u, rfl, r1⟩ := fS r
 obtain rfl : u = Value.ref a := r1
 obtain ⟨its, rv, p, hz⟩ := I.list hs
 have hi := eE rv
 obtain ⟨m, F⟩ := I.fr
 have N : News X.base X.env.locals s.heap [] := fun q hq => absurd hq (by simp)
 obtain ⟨zs, hx⟩ := hi.allInts.items
 have hl' : s.heap.IsList a (intItems zs) := hx ▸ p.isList
 refine sum_intListG (I.ok.hd hc) hl' fun h' tk t' hk => ?_
 have e1 : ns = zs.toList.map (·.1) := by
  rw [<- nums_intItems, <- hx]
  exact (show numsOf its.toArray.toList = ns from hi.numsOf).symm
 have e2 : preSum (numAt zs) zs.size = ns.sum := by
  rw [preSum_eq, List.take_of_length_le (by simp), e1]
 rw [e2]
 exact ⟨.int ns.sum, H, I.kept hk, ⟨_, rfl⟩, q⟩
theorem jY (hc : X.calm = true) : dX X (.builtin "min") (fun xs H Q => ∃ (a : Addr) (ns : List Int), xs = [.ref a] /\ SqL X.K H a (ns.map V.int) /\ 0 < ns.length /\ ∀ m, m ∈ ns -> (∀ b ∈ ns, m <= b) -> Q (.int m) H) := by
 intro pins s σ H xs us Q I r h
 obtain ⟨a, ns, rfl, hs, hn, q⟩ := h
 obtain ⟨u, rfl, r1⟩ := fS r
 obtain rfl : u = Value.ref a := r1
 obtain ⟨its, rv, p, hz⟩ := I.list hs
 obtain ⟨zs, e⟩ := (eE rv).allInts.items
 have hns : ns = zs.toList.map (·.1) := by rw [<- (eE rv).numsOf, <- nums_intItems, <- e]
 have hsz : 0 < zs.size := by have h3 := hn; rw [hns, List.length_map, Array.length_toList] at h3; exact h3
 have hl := p.isList
 rw [e] at hl
 refine min_intList (I.ok.hd hc) hl hsz fun v h' tk hv hk => ?_
 obtain ⟨t, rfl⟩ := intItems_at hv
 obtain ⟨h1, h2⟩ := argBest_lt (numAt zs) (zs.size - 1)
 have e3 : ∀ k, k < zs.size -> numAt zs k ∈ ns := fun k hk => by
  rw [hns]
  refine List.mem_map.mpr ⟨zs[k], by simp, ?_⟩
  simp [numAt, hk]
 have e4 : ∀ b ∈ ns, ∃ k, k < zs.size /\ numAt zs k = b := fun b hb => by
  rw [hns] at hb
  obtain ⟨y, hy, rfl⟩ := List.mem_map.mp hb
  obtain ⟨k, hk, hk2⟩ := List.getElem_of_mem hy
  have hk' : k < zs.size := by simpa using hk
  refine ⟨k, hk', ?_⟩
  simp [numAt, hk', <- hk2]
 refine ⟨.int (numAt zs (argBest (fun i j => decide (numAt zs i < numAt zs j)) (zs.size - 1))), H, I.kept hk, ⟨_, rfl⟩, q _ (e3 _ (by omega)) fun b hb => ?_⟩
 obtain ⟨k, hk1, rfl⟩ := e4 b hb
 exact h2 k (by omega)
end
theorem Same.new {H : Hp} {p : Addr} (h : H p = none) (o : HO) : Same H (upd H p o) := fun b u q => by rw [aQ (bH q h)]; exact q
theorem Same.seqT {K : PySem.W.Frag} {H H' : Hp} {a : Addr} {xs : List V} (e : Same H H') (h : SqT K H a xs) : SqT K H' a xs := by
 rcases h with (h | ⟨o, h⟩) | h
 ·exact .inl (.inl (e _ _ h))
 ·exact .inl (.inr ⟨o, e _ _ h⟩)
 ·exact .inr h
theorem Same.seqB {K : PySem.W.Frag} {b : Bool} {H H' : Hp} {a : Addr} {xs : List V} (e : Same H H') (h : SqB K b H a xs) : SqB K b H' a xs := by
 cases b
 ·exact e.seq h
 ·exact e.seqT h
section
variable {X : Cx} {K : PySem.W.Frag} {pos : Pos}
theorem cG {es : List Expr} {k : Nat} {t : TGs} {n : Nat} (hK : X.K = K) (hc : X.calm = true) (h : PGs X es t)
  (hn : (assignEach es X.env).length = n := by rfl) (hst : (assignEach es X.env).findIdx? (·.1) = none := by rfl) : PG X (.Tuple es k pos) (gTup K n t) := by subst hK; exact pg_tup hc h hn hst
theorem bE (hK : X.K = K) : IxR X (rIxL K) := by subst hK; exact ix_list
theorem b7 (hK : X.K = K) : IxR X (rIxT K) := by subst hK; exact ix_tup
theorem dY (hK : X.K = K) : SlR X (rSlL K) := by subst hK; exact sl_list
theorem cZ (hK : X.K = K) : dX X (.builtin "len") (fun xs H Q => ∃ p ys, xs = [.ref p] /\ (SqL K H p ys \/ SqT K H p ys) /\ Q (.int ys.length) H) := by subst hK; exact call_len_seq
theorem oX (hK : X.K = K) : dX X (.type "list") (fun xs H Q => ∃ p ys, xs = [.ref p] /\ (SqL K H p ys \/ SqT K H p ys) /\ ∀ l, H l = none -> Q (.ref l) (upd H l (.lst ys))) := by subst hK; exact call_list_of
theorem d0 (hK : X.K = K) : dX X (.type "tuple") (fun xs H Q => ∃ p ys, xs = [.ref p] /\ ((SqL K H p ys /\ ∀ l, H l = none -> Q (.ref l) (upd H l (.tup ys))) \/ (SqT K H p ys /\ Q (.ref p) H))) := by subst hK; exact call_tuple_of
end
theorem kT {J : It} {n : Nat} {fr : List (Option Nat)} {g : TG} {tc : TT} {te : TE} {D : Addr} {σ : St} {H1 : Hp} {Q : VK} (Pv : Nat -> List V -> Hp -> Prop) (h0 : Pv 0 [] (upd H1 D (.lst [])))
  (hD : ∀ i ys H, i <= n -> Pv i ys H -> H D = some (.lst ys) /\ ys.length <= i) (hgo : ∀ i ys H, i < n -> Pv i ys H -> J.go i H) (hstop : ∀ ys H, Pv n ys H -> J.stop n H) (hn : n <= sizeLine)
  (hs : ∀ i ys H x H', i < n -> Pv i ys H -> J.yld i H x H' -> g x (aX fr σ) H' fun σ2 H2 => Wk (aX fr σ) σ2 /\ tc σ2 H2 fun b H3 => if b = true then te σ2 H3 fun y H4 => H4 D = some (.lst ys) /\ Pv (i + 1) (ys ++ [y]) (upd H4 D (.lst (ys ++ [y]))) else Pv (i + 1) ys H3)
  (hd : ∀ ys H, Pv n ys H -> Q (.ref D) H) : eJ fr g tc te D J σ H1 Q := by
 refine ⟨fun i m ys H => m = n - i /\ i <= n /\ Pv i ys H, ⟨n, by simp, Nat.zero_le _, h0⟩, ?_⟩
 rintro i m ys H ⟨rfl, hi, p⟩
 obtain ⟨q, hl⟩ := hD i ys H hi p
 refine ⟨q, ?_⟩
 by_cases hlt : i < n
 ·exact .inr ⟨hgo i ys H hlt p, by omega, Pv (i + 1), fun ys' H' p' => ⟨n - (i + 1), by omega, rfl, hlt, p'⟩, fun x H' y => hs i ys H x H' hlt p y⟩
 ·have e : i = n := by omega
  subst e
  exact .inl ⟨hstop ys H p, hd ys H p⟩
theorem comp_list {K : PySem.W.Frag} {a : Addr} {xs : List V} {fr : List (Option Nat)} {g : TG} {tc : TT} {te : TE} {D : Addr} {σ : St} {H1 : Hp} {Q : VK} (Pv : Nat -> List V -> Hp -> Prop) (h0 : Pv 0 [] (upd H1 D (.lst [])))
  (hD : ∀ i ys H, i <= xs.length -> Pv i ys H -> H D = some (.lst ys) /\ ys.length <= i) (hl : ∀ i ys H, i <= xs.length -> Pv i ys H -> SqL K H a xs) (hn : xs.length <= sizeLine)
  (hs : ∀ i x ys H, xs[i]? = some x -> Pv i ys H -> g x (aX fr σ) H fun σ2 H2 => Wk (aX fr σ) σ2 /\ tc σ2 H2 fun b H3 => if b = true then te σ2 H3 fun y H4 => H4 D = some (.lst ys) /\ Pv (i + 1) (ys ++ [y]) (upd H4 D (.lst (ys ++ [y]))) else Pv (i + 1) ys H3)
  (hd : ∀ ys H, Pv xs.length ys H -> Q (.ref D) H) : eJ fr g tc te D (Itl K a) σ H1 Q := by
 refine kT (n := xs.length) Pv h0 hD (fun i ys H hi p => ⟨xs, xs[i], hl i ys H (Nat.le_of_lt hi) p, by simp [hi]⟩) (fun ys H p => ⟨xs, hl _ ys H (Nat.le_refl _) p, Nat.le_refl _⟩) hn (fun i ys H x H' hi p y => ?_) hd
 obtain ⟨e, y⟩ := y
 subst e
 exact hs i x ys _ (y xs (hl i ys _ (Nat.le_of_lt hi) p)) p
theorem comp_tup {K : PySem.W.Frag} {a : Addr} {xs : List V} {fr : List (Option Nat)} {g : TG} {tc : TT} {te : TE} {D : Addr} {σ : St} {H1 : Hp} {Q : VK} (Pv : Nat -> List V -> Hp -> Prop) (h0 : Pv 0 [] (upd H1 D (.lst [])))
  (hD : ∀ i ys H, i <= xs.length -> Pv i ys H -> H D = some (.lst ys) /\ ys.length <= i) (hl : ∀ i ys H, i <= xs.length -> Pv i ys H -> SqT K H a xs) (hn : xs.length <= sizeLine)
  (hs : ∀ i x ys H, xs[i]? = some x -> Pv i ys H -> g x (aX fr σ) H fun σ2 H2 => Wk (aX fr σ) σ2 /\ tc σ2 H2 fun b H3 => if b = true then te σ2 H3 fun y H4 => H4 D = some (.lst ys) /\ Pv (i + 1) (ys ++ [y]) (upd H4 D (.lst (ys ++ [y]))) else Pv (i + 1) ys H3)
  (hd : ∀ ys H, Pv xs.length ys H -> Q (.ref D) H) : eJ fr g tc te D (Itt K a) σ H1 Q := by
 refine kT (n := xs.length) Pv h0 hD (fun i ys H hi p => ⟨xs, xs[i], hl i ys H (Nat.le_of_lt hi) p, by simp [hi]⟩) (fun ys H p => ⟨xs, hl _ ys H (Nat.le_refl _) p, Nat.le_refl _⟩) hn (fun i ys H x H' hi p y => ?_) hd
 obtain ⟨e, y⟩ := y
 subst e
 exact hs i x ys _ (y xs (hl i ys _ (Nat.le_of_lt hi) p)) p
theorem nR {K : PySem.W.Frag} {b1 b2 : Bool} {a1 a2 : Addr} {us vs : List V} {fr : List (Option Nat)} {g : TG} {tc : TT} {te : TE} {D : Addr} {σ : St} {H1 : Hp} {Q : VK} (Pv : Nat -> List V -> Hp -> Prop) (h0 : Pv 0 [] (upd H1 D (.lst [])))
  (hD : ∀ i ys H, i <= min us.length vs.length -> Pv i ys H -> H D = some (.lst ys) /\ ys.length <= i) (hl : ∀ i ys H, i <= min us.length vs.length -> Pv i ys H -> SqB K b1 H a1 us /\ SqB K b2 H a2 vs) (hn : us.length <= sizeLine)
  (hs : ∀ i x y T ys H, us[i]? = some x -> vs[i]? = some y -> H T = none -> Pv i ys H -> g (.ref T) (aX fr σ) (upd H T (.tup [x, y])) fun σ2 H2 => Wk (aX fr σ) σ2 /\ tc σ2 H2 fun b H3 => if b = true then te σ2 H3 fun y H4 => H4 D = some (.lst ys) /\ Pv (i + 1) (ys ++ [y]) (upd H4 D (.lst (ys ++ [y]))) else Pv (i + 1) ys H3)
  (hd : ∀ ys H, Pv (min us.length vs.length) ys H -> Q (.ref D) H) : eJ fr g tc te D (Itz K b1 b2 a1 a2) σ H1 Q := by
 refine kT (n := min us.length vs.length) Pv h0 hD (fun i ys H hi p => ?_) (fun ys H p => ?_) (by omega) (fun i ys H x H' hi p y => ?_) hd
 ·obtain ⟨h1, h2⟩ := hl i ys H (Nat.le_of_lt hi) p
  have e1 : i < us.length := by omega
  have e2 : i < vs.length := by omega
  exact ⟨us, vs, us[i], vs[i], h1, h2, by simp [e1], by simp [e2]⟩
 ·obtain ⟨h1, h2⟩ := hl _ ys H (Nat.le_refl _) p
  exact ⟨us, vs, h1, h2, by omega⟩
 ·obtain ⟨h1, h2⟩ := hl i ys H (Nat.le_of_lt hi) p
  obtain ⟨T, v, u, e1, e2, e3, y1, y2⟩ := y
  subst e1 e3
  exact hs i v u T ys _ (y1 us h1) (y2 vs h2) e2 p
theorem Same.upd_old {H H' : Hp} {D : Addr} {o : HO} (e : Same H H') (h : H D = none) : Same H (upd H' D o) := fun b u q => by
 rw [aQ (fun z => by rw [z, h] at q; cases q)]; exact e b u q
theorem pZ {σ : St} {H : Hp} {A B : Hp -> Prop} (h : A H) : tYes σ H (fun b H3 => if b = true then A H3 else B H3) := by
 show if true = true then A H else B H
 exact iI h
end L2
namespace L2
open PySem PySem.Spec PyProof.Rows
def CXE (P : Program) (w : World) : CXT := fun outer H s E ev s' =>
 ∃ (e C : Addr) (a0 : Value) (B : Heap) (H' : Hp), ev = .ref e /\ s'.os = s.os /\ AllBare s'.gens /\ Un (frs outer) [] H H' s.heap s'.heap /\ HOk P w H' s'.heap /\
  Heap.FlyingW B outer e (.ref C) a0 s'.heap /\ (∀ b u, H' b = some u -> ∃ o, B.get? b = some o) /\ (∀ b o, s.heap.get? b = some o -> b ∉ frs outer -> ∃ o', B.get? b = some o') /\ s.heap.get? e = none /\ E (.ref C) none H'
theorem qN {P : Program} {w : World} {H : Hp} {h : Heap} {a : Addr} {o : HO} (x : ObjOk P w H h a o) : ∃ ob, h.get? a = some ob := by
 cases o with
 | lst xs => obtain ⟨_, _, _, _, e⟩ := x; exact ⟨_, e⟩
 | tup xs => obtain ⟨_, _, _, o, e, _⟩ := x; exact ⟨o, e⟩
 | dK kvs => obtain ⟨_, _, _, _, o, _, _, e, _⟩ := x; exact ⟨o, e⟩
 | dT kvs => obtain ⟨_, _, _, _, o, _, _, e, _⟩ := x; exact ⟨o, e⟩
 | set S n => obtain ⟨o, _, _, _, e, _⟩ := x; exact ⟨o, e⟩
 | ins C dx fs => obtain ⟨_, _, _, e, _⟩ := x; exact ⟨_, e⟩
 | own y => obtain ⟨o, e⟩ := x; exact ⟨o, e⟩
 | xd fs => obtain ⟨_, ⟨o, _, _, e, _⟩, _⟩ := x; exact ⟨o, e⟩
 | rng lo hi => obtain ⟨_, _, _, e⟩ := x; exact ⟨_, e⟩
 | frz ob u => obtain ⟨e, _⟩ := x; exact ⟨_, e⟩
 | tbl ps => exact ⟨_, (show h.get? a = some _ from x)⟩
 | met f y => exact ⟨_, (show h.get? a = some _ from x)⟩
 | ext φ => obtain ⟨_, e, _⟩ := x; exact e
theorem no_fs {b : Addr} : b ∉ ([] : List Addr) := by simp
section
variable {X : Cx} {pins : List (Addr × Obj)} {σ : St} {H : Hp} {s : Shared} {g h' B : Heap} {e C : Addr} {a0 : Value} {E : XK}
theorem mH (hs : B.StaysIn g) (hs' : B.StaysIn h') {b : Addr} {o o' : Obj} (hb : B.get? b = some o') (hg : g.get? b = some o) : h'.get? b = some o := by
 have q := hs b o' hb
 rw [hg] at q
 cases q
 exact hs' b o hb
theorem hok_by {P : Program} {w : World} (hok : HOk P w H g) (hs : B.StaysIn g) (hs' : B.StaysIn h') (hT : ∀ b u, H b = some u -> ∃ o, B.get? b = some o) : HOk P w H h' := fun b u q =>
 (hok b u q).stay (fun c v hc r => by
  have ⟨o', z⟩ : ∃ o', B.get? c = some o' := by
   rcases hc with z | z
   ·rw [z]; exact hT b u q
   ·exact hT c _ z
  exact mH hs hs' z r) (fun _ r => r) fun _ _ r => r
theorem qL (I : Inv X pins σ H s) (hex : X.ex = []) (gk : ∀ b o, s.heap.get? b = some o -> g.get? b = some o) (fl : Heap.FlyingW B X.outer e (.ref C) a0 h') (up : g.UpToSlots h')
  (hB : ∀ b o, X.s₀.heap.get? b = some o -> b ∉ frs X.outer -> ∃ o', B.get? b = some o') (hT : ∀ b u, H b = some u -> ∃ o, B.get? b = some o) (hs : B.StaysIn g) (he : X.s₀.heap.get? e = none) (hE : E (.ref C) none H) :
  CXE X.prog X.w X.outer X.H₀ X.s₀ E (.ref e) { s with heap := h' } := by
 have nx : ∀ b, b ∉ X.ex := fun b z => by rw [hex] at z; exact absurd z (by simp)
 have sl : ∀ b, b ∈ frs X.outer -> ∃ o o', X.s₀.heap.get? b = some o /\ h'.get? b = some o' /\ (∀ o2, X.s₀.heap.get? b = some o2 -> ∃ sl, o' = { o2 with slots := sl }) := fun b hb => by
  obtain ⟨_, o, ho, hd⟩ := I.ok.funs.mem hb
  obtain ⟨s1, e1⟩ := I.base.slot b o ho (I.ok.frf b hb) hb (nx b)
  obtain ⟨s2, e2⟩ := up b _ (gk b _ e1) hd
  exact ⟨o, _, ho, e2, fun o2 q => by rw [ho] at q; cases q; exact ⟨s2, rfl⟩⟩
 have gfl : HOk X.prog X.w H g := I.hok.kept gk
 refine ⟨e, C, a0, B, H, rfl, I.os, I.bare, ⟨fun b o q n hb _ => ?_, fun b o q n hb _ => ?_, fun b o q n _ => I.base.free b o q n (nx b), fun b o q _ => ?_, I.base.tups, I.base.frzs, I.base.tbls⟩, hok_by gfl hs fl.1 hT, fl, hT, hB, he, hE⟩
 ·obtain ⟨o', z⟩ := hB b o q hb
  exact mH hs fl.1 z (gk b o (I.base.keep b o q n hb (nx b)))
 ·obtain ⟨_, o', _, z, r⟩ := sl b hb
  obtain ⟨s2, r⟩ := r o q
  exact ⟨s2, by rw [z, r]⟩
 ·by_cases hb : b ∈ frs X.outer
  ·obtain ⟨_, o', _, z, _⟩ := sl b hb
   exact ⟨o', z⟩
  ·obtain ⟨o', z⟩ := hB b o q hb
   exact ⟨o', fl.1 b o' z⟩
theorem Inv.older (I : Inv X pins σ H s) {b : Addr} {o : Obj} (q : X.s₀.heap.get? b = some o) (hb : b ∉ frs X.outer) : b ∉ frs X.stack := fun z => by
 rcases List.mem_cons.mp (I.stkSub b z) with r | r
 ·rw [r] at q; exact absurd (Nat.lt_of_lt_of_le (Heap.lt_size q) I.ok.above) (Nat.lt_irrefl _)
 ·exact hb r
end
section
variable {P : Program} {w : World} {K : PySem.W.Frag} {mg : Str -> Option Value} {base : Heap} {N : List Str} {qual : Str} {scope : Scope} {f : Addr} {cd : Value} {A : Around} {outer : List Env} {s₀ : Shared} {H₀ : Hp} {E : XK}
theorem raise_out {pins : List (Addr × Obj)} {σ : St} {H : Hp} {s : Shared} {h1 : Heap} {e C : Addr} {args : List Value} (I : Inv (iK (CXE P w) P w K mg base N qual scope f cd A outer s₀ H₀ E) pins σ H s) (hx : Heap.MadeExcOf s.heap h1 e (.ref C) args) (hE : E (.ref C) none H) :
  (iK (CXE P w) P w K mg base N qual scope f cd A outer s₀ H₀ E).xe (.ref e) { s with heap := h1 } := by
 have hin : ∀ env ∈ (envOfC qual scope s₀.heap.objs.size f cd :: outer), ∀ b, env.frame = some b -> b ∈ frs (envOfC qual scope s₀.heap.objs.size f cd :: outer) := fun env he b hb => List.mem_filterMap.mpr ⟨env, he, hb⟩
 have hg : ∀ b o, s.heap.get? b = some o -> b ∉ frs (envOfC qual scope s₀.heap.objs.size f cd :: outer) -> (PySem.W.hideAll s.heap (frs (envOfC qual scope s₀.heap.objs.size f cd :: outer))).get? b = some o := fun b o q hb => PySem.W.hideAll_get _ q hb
 show wpAny _ _ («leaving» (envOfC qual scope s₀.heap.objs.size f cd) (.ref e)) _ _ _
 refine wpAny_leaves_madeW (base := PySem.W.hideAll s.heap (frs (envOfC qual scope s₀.heap.objs.size f cd :: outer))) (h := s.heap) I.ok.frames rfl (fun b o q => PySem.W.of_hideAll _ q) (PySem.W.funFrames_hide I.stack hin) hx fun h' t fl _ _ up => ?_
 refine qL (g := h1) I rfl hx.keeps fl up (fun b o q hb => ?_) (fun b u q => ?_) (fun b o q => hx.keeps b o (PySem.W.of_hideAll _ q)) ?_ hE
 ·obtain ⟨o', z⟩ := I.base.there b o q no_fs
  exact ⟨o', hg b o' z (I.older q hb)⟩
 ·obtain ⟨o, z⟩ := qN (I.hok b u q)
  exact ⟨o, hg b o z fun hb => by rw [I.stkFree b hb] at q; cases q⟩
 ·cases q : s₀.heap.get? e with
  | none => exact q
  | some o =>
   obtain ⟨o', z⟩ := I.base.there e o q no_fs
   rw [hx.new] at z; cases z
theorem pass_out : oY (CXE P w) (iK (CXE P w) P w K mg base N qual scope f cd A outer s₀ H₀ E) E := fun pins σ H s ev s' I h => by
 obtain ⟨e, C, a0, B, H', rfl, os, bare, un, hok, fl, hT, hB, he, hE⟩ := h
 have I' := I.call' os un hok bare (fun b z => absurd z (by simp))
 show wpAny _ _ («leaving» (envOfC qual scope s₀.heap.objs.size f cd) (.ref e)) _ _ _
 refine wpAny_leaves_onW I.ok.frames rfl fl fun h' fl' up => ?_
 refine qL (g := s'.heap) I' rfl (fun _ _ q => q) fl' up (fun b o q hb => ?_) hT fl.1 ?_ hE
 ·obtain ⟨o', z⟩ := I.base.there b o q no_fs
  exact hB b o' z (I.older q hb)
 ·cases q : s₀.heap.get? e with
  | none => exact q
  | some o =>
   obtain ⟨o', z⟩ := I.base.there e o q no_fs
   rw [he] at z; cases z
end
end L2
namespace L2
open PySem PySem.Spec PyProof.Rows
def iU (CX : CXT) (X : Cx) (G : St -> XK) : Prop := ∀ (pins : List (Addr × Obj)) (σ : St) (H : Hp) (s : Shared) (e : Value) (s' : Shared), Inv X pins σ H s -> CX X.stack H s (G σ) e s' -> X.xe e s'
def tCallG (sp : Sp) (dvs : List V) (G : St -> XK) (t : TA) : TE := fun σ H Q => t σ H fun vs H1 => sp (vs ++ dvs) H1 Q (G σ)
structure CalX (P : Program) (w : World) (K : PySem.W.Frag) (mg : Str -> Option Value) (base : Heap) (k : Nat) (x : Str) (ps : List Str) (sp : Sp) : Prop where
 ex : ∃ f fd, FnOk P w K mg base (CXE P w) k f fd ps sp /\ mg x = some (.ref f) /\ PySem.W.keepIn K (.ref f) = true /\ Binds K fd ps []
section
variable {X : Cx} {CX : CXT} {k : Nat} {f : Addr} {fd : FuncData} {ps : List Str} {sp : Sp} {dvs : List V} {ds : List Value} {G : St -> XK} {x : Str} {p pos : Pos} {e : Expr} {es : List Expr} {t : TA}
theorem pG {pins : List (Addr × Obj)} {σ : St} {H : Hp} {s : Shared} {Q : VK} {us : List Value} {vs : List V} (F : FnOk X.prog X.w X.K X.mg X.base CX k f fd ps sp) (hr : Room k X.A) (hb : Binds X.K fd ps ds) (hd : Vals dvs ds) (hx : iU CX X G)
  (I : Inv X pins σ H s) (r : Vals vs us) (h : sp (vs ++ dvs) H Q (G σ)) : wpAny (model X.prog X.w) X.A (call (.ref f) us) (EP X pins σ Q) X.xe s := by
 have r2 : Vals (vs ++ dvs) (us ++ ds) := r.append hd
 have hl : (us ++ ds).length = ps.length := by rw [<- r2.length]; exact F.len _ _ _ _ h
 refine wpAny_call (codeAny_mono (F.run X.A X.stack s H ⟨us, []⟩ (us ++ ds) (vs ++ dvs) Q (G σ) hr I.env0 (hb s us I.kIn hl) r2 h) fun r s' hq => ?_)
 cases r with
 | error e => exact hx pins σ H s e s' I hq
 | ok fl =>
  cases fl with
  | ret u => exact I.after hq
  | next => exact False.elim hq
  | brk => exact False.elim hq
  | cont => exact False.elim hq
theorem b6 (C : CalX X.prog X.w X.K X.mg X.base k x ps sp) (hr : Room k X.A) (hg : Gl X x) (hx : iU (CXE X.prog X.w) X G) (ha : PA X (e :: es) t) (hdb : (x == ("__debug__" : Str)) = false := by decide)
  (he : starEach (e :: es) X.env = (false, eval e X.env) :: starEach es X.env := by rfl) (hpl : (backTo pos (starEach es X.env)).any (·.1) = false := by rfl) : PE X (.Call (.Name x p) (e :: es) [] pos) (tCallG sp [] G t) := by
 obtain ⟨f, fd, F, m, kk, b⟩ := C.ex
 intro pins s σ H Q I h
 refine wpAny_Call_Name_kw (iZ I hg m ?_ hdb)
 refine PySem.W.callWith_K (h₀ := X.base) I.ok.mod.kin kk (thn (ha pos pins s σ H _ I h) fun us s1 ⟨vs, H1, I1, r, q⟩ => ⟨I1.kIn, ?_⟩) he hpl
 exact pG F hr b .nil hx I1 r q
end
structure ExcC (K : PySem.W.Frag) (C : Addr) : Prop where
 ok : PySem.W.excIn K C [.type "ValueError", .type "Exception", .type "BaseException", .type "object"] "ValueError.__new__" = true
theorem ExcC.obj {K : PySem.W.Frag} {C : Addr} {h : Heap} (q : ExcC K C) (X : K.In h) : ∃ (bm : List Value) (N : Addr) (nm qn : Str) (bs : List Value) (hd : Bool) (sn : List Str) (sub : List Value) (ab : Bool) (col : Option Bool) (dd : Option Addr) (k0 k1 k2 k3 k5 : Option Value) (mN : Str -> Option Value),
  h.get? C = some (excClassObj nm qn C N bs bm hd sn sub ab col dd k0 k1 k2 k3 k5 "ValueError.__new__") /\ h.Ns N mN /\ mN "__init__" = none /\ OwnTail h [.type "ValueError", .type "Exception", .type "BaseException", .type "object"] bm := by
 have q := q.ok
 unfold PySem.W.excIn at q
 split at q
 ·rename_i dd cd sl ho
  split at q
  ·rename_i C' bm k0 k1 k2 k3 n k5 hm hs
   simp only [Bool.and_eq_true, beq_iff_eq, Bool.not_eq_true'] at q
   obtain ⟨⟨⟨⟨⟨rfl, rfl⟩, hdel⟩, ht⟩, hok⟩, hni⟩ := q
   obtain ⟨nm, bs, mro, ns, qn, hd, sn, sub, ab, col, del⟩ := cd
   dsimp only at hm hdel hok hni
   subst hm hdel
   have hsl : sl = #[k0, k1, k2, k3, some (.builtin "ValueError.__new__"), k5] := by
    obtain ⟨l⟩ := sl
    simp only at hs
    rw [hs]
   subst hsl
   exact ⟨bm, ns, nm, qn, bs, hd, sn, sub, ab, col, dd, k0, k1, k2, k3, k5, _, X _ _ ho, .of_isNs (PySem.W.isNs_of_in X hok), PySem.W.nsMap_none_of_in X hok hni, PySem.W.tail_of_in X ht⟩
  ·cases q
 ·cases q
def tRaise (C : Addr) (G : St -> XK) (t : TA) : TS := fun _ σ H => t σ H fun vs H1 => vs.length <= sizeLine /\ G σ (.ref C) none H1
def RaiseG (X : Cx) (G : St -> XK) : Prop := ∀ (pins : List (Addr × Obj)) (σ : St) (H : Hp) (s : Shared) (h1 : Heap) (e C : Addr) (args : List Value), Inv X pins σ H s -> Heap.MadeExcOf s.heap h1 e (.ref C) args -> G σ (.ref C) none H -> X.xe (.ref e) { s with heap := h1 }
section
variable {X : Cx} {C : Addr} {G : St -> XK} {x : Str} {np cpos pos : Pos} {e : Expr} {es : List Expr} {t : TA}
theorem nF (hc : X.calm = true) (q : ExcC X.K C) (hg : Gl X x) (hm : X.mg x = some (.ref C)) (hx : RaiseG X G) (ha : PA X (e :: es) t)
  (he : starEach (e :: es) X.env = (false, eval e X.env) :: starEach es X.env := by rfl) (hpl : (backTo cpos (starEach es X.env)).any (·.1) = false := by rfl) (hdb : (x == ("__debug__" : Str)) = false := by decide) :
  PS X (.Raise (some (.Call (.Name x np) (e :: es) [] cpos)) none pos) (tRaise C G t) := by
 intro pins s σ H D I h
 have hpl' : (backTo cpos (starEach (e :: es) X.env)).any (·.1) = false := by
  rw [he]
  show ((false || (backTo cpos (starEach es X.env)).any (·.1))) = false
  rw [hpl]; rfl
 obtain ⟨bm, N, nm, qn, bs, hd, sn, sub, ab, col, dd, k0, k1, k2, k3, k5, mN, hC, hN, hni, TL⟩ := q.obj I.mod.kin
 refine wpAny_Raise_call_subU (C := C) (N := N) (nm := nm) (q := qn) (bs := bs) (bm := bm) (hdct := hd) (sn := sn) (sub := sub) (ab := ab) (col := col) (dd := dd) (k0 := k0) (k1 := k1) (k2 := k2) (k3 := k3) (k5 := k5) (mN := mN)
  PySem.F.excBase_ValueError (by decide +kernel) PySem.F.excBase_ValueError (TL.hasType (by decide +kernel)) (I.ok.hd hc) hpl' hni (iZ I hg hm ⟨rfl, ?_⟩ hdb)
 have pa := ha cpos pins s σ H _ I h
 rw [he] at pa ⊢
 show wpAny _ _ (evalArgs (.ref C) true ((false, eval e X.env) :: backTo cpos (starEach es X.env)) []) _ _ _
 refine Calls.evalArgs_plain (thn pa fun us s1 ⟨vs, H1, I1, r1, z, q1⟩ => ⟨rfl, (show us.length <= sizeLine by rw [<- r1.length]; exact z), ?_⟩)
 exact ⟨I1.bk _ _ hC, hN.keeps I1.bk, TL.keeps I1.bk, fun h1 e1 hx1 => hx pins σ H1 s1 h1 e1 C us I1 hx1 q1⟩
end
section
variable {P : Program} {w : World} {K : PySem.W.Frag} {mg : Str -> Option Value} {base : Heap} {N : List Str} {qual : Str} {scope : Scope} {f : Addr} {cd : Value} {A : Around} {outer : List Env} {s₀ : Shared} {H₀ : Hp} {E : XK}
theorem kN : RaiseG (iK (CXE P w) P w K mg base N qual scope f cd A outer s₀ H₀ E) (fun _ => E) := fun _ _ _ _ _ _ _ _ I hx hE => raise_out I hx hE
theorem bZ : iU (CXE P w) (iK (CXE P w) P w K mg base N qual scope f cd A outer s₀ H₀ E) (fun _ => E) := fun pins σ H s e s' I h => pass_out pins σ H s e s' I h
end
theorem Fun.okX {P : Program} {w : World} {K : PySem.W.Frag} {mg : Str -> Option Value} {base : Heap} {x qual : Str} {st : Stmt} {f : Addr} {fd : FuncData} {N ps : List Str} {k : Nat} {sp : Sp} (F : Fun K x qual st f fd) (S : FnScope N ps (aG st)) (len : ∀ vs H Q E, sp vs H Q E -> vs.length = ps.length)
  (hbody : ∀ (cdv : Value) (A : Around) (outer : List Env) (s : Shared) (H : Hp) (vs : List V) (Q : VK) (E : XK), Room k (A.deeper (envOfC qual (aG st) s.heap.objs.size f cdv)) -> sp vs H Q E ->
   ∃ t, PSs (iK (CXE P w) P w K mg base N qual (aG st) f cdv A outer s H E) (eQ st) t /\ t { nx := fun _ H' => Q .non H', rt := Q } (iM N vs) H) : FnOk P w K mg base (CXE P w) (k + 1) f fd ps sp := by
 obtain ⟨oc, od, kV, doc, pm, an, cdv, ct, osl, rfl, lk, hcd⟩ := F.ex
 exact fn_of lk hcd S len fun A outer s H vs Q E hr hsp => hbody cdv A outer s H vs Q E hr hsp
def j0 (X : Cx) (pn : List (Addr × Obj)) (G : St -> XK) : Cx := { X with pn := pn, xe := fun ev s' => ∃ σ H s, Inv { X with pn := pn, xe := fun _ _ => False } [] σ H s /\ CXE X.prog X.w X.stack H s (G σ) ev s' }
theorem Inv.like {X Y : Cx} {pins pins' : List (Addr × Obj)} {σ : St} {H : Hp} {s : Shared} (I : Inv X pins σ H s) (ok : Y.Ok) (h1 : Y.s₀ = X.s₀) (h2 : Y.H₀ = X.H₀) (h3 : Y.outer = X.outer) (h4 : Y.ex = X.ex) (h5 : Y.env = X.env) (h6 : Y.N = X.N) (h7 : Y.prog = X.prog) (h8 : Y.w = X.w)
  (hp : ∀ p ∈ Y.pn ++ pins', s.heap.get? p.1 = some p.2 /\ H p.1 = none /\ p.1 ≠ X.env.locals /\ p.1 ∉ X.fs /\ ∀ v, p.2.data ≠ .cell v) : Inv Y pins' σ H s := by
 refine ⟨ok, by rw [h1]; exact I.os, I.bare, by show Un (frs Y.outer) Y.ex Y.H₀ H Y.s₀.heap s.heap; rw [h1, h2, h3, h4]; exact I.base, by rw [h5, h6]; exact I.loc, by rw [h5]; exact I.cell, by rw [h5]; exact I.free, by rw [h5]; exact I.freeC, fun p hm => ?_, by rw [h7, h8]; exact I.hok, by rw [h6]; exact I.len⟩
 show _ /\ _ /\ p.1 ≠ Y.env.locals /\ p.1 ∉ frs Y.outer /\ _
 rw [h5, h3]
 exact hp p hm
theorem tryC_pass {X : Cx} {pn : List (Addr × Obj)} {G : St -> XK} : iU (CXE X.prog X.w) (j0 X pn G) G := fun pins σ H s e s' I h =>
 ⟨σ, H, s, I.like (Y := { X with pn := pn, xe := fun _ _ => False }) ⟨I.ok.mod, I.ok.kind, I.ok.glob, I.ok.blt, I.ok.above, I.ok.inj, I.ok.has, I.ok.cab, I.ok.hd, I.ok.frames, I.ok.stk, I.ok.exf, I.ok.bs, I.ok.bsz, I.ok.noex, I.ok.exfs, I.ok.funs, I.ok.frf⟩ rfl rfl rfl rfl rfl rfl rfl rfl
  (fun p hp => I.pin p (List.mem_append_left _ (show p ∈ pn by simpa using hp))), h⟩
def fC (C a : Addr) : HO := .ext fun h => ∃ o, h.get? a = some o /\ o.cls = .ref C /\ ∃ vs, o.data = .fields vs
def gU (X : Cx) (pn : List (Addr × Obj)) (e : Addr) : Cx := { X with pn := pn, A := X.A.mark (some (.ref e)), calm := false, xe := fun _ _ => False }
def tTry (K : PySem.W.Frag) (c : Addr) (i : Nat) (tb : (St -> XK) -> TS) (ts : TS) : TS := fun D σ H =>
 tb (fun σ1 cls _ H1 => ∃ C, cls = .ref C /\ PySem.W.exmOne K (.ref C) (.ref c) = some true /\ ∀ a, H1 a = none ->
  ts { nx := fun σ2 H2 => D.nx (σ2.set i none) H2, rt := D.rt, bk := fun σ2 H2 => D.bk (σ2.set i none) H2, ct := fun σ2 H2 => D.ct (σ2.set i none) H2 } (σ1.set i (some (.ref a))) (upd H1 a (fC C a))) D σ H
end L2
namespace L2
open PySem PySem.Spec PyProof.Rows
section
variable {X : Cx} {pins : List (Addr × Obj)} {σ : St} {H : Hp} {s : Shared}
theorem mS {M : Model} {A : Around} {E : Value -> Shared -> Prop} {Q : Unit -> Shared -> Prop} {i : Nat} {n : Str} {pos : Pos} (I : Inv X pins σ H s) (hN : X.N.Nodup) (hi : X.N[i]? = some n) (hl : X.env.scope.names.lookup n = some .local)
  (h : ∀ s', Inv X pins (σ.set i none) H s' -> Q () s') : wpAny M A (do bindName X.env n .none; unbindBehindTheSuite X.env n pos) Q E s := by
 obtain ⟨m, hn, hv⟩ := id I.loc
 have hcls : (X.env.scope.kind == .class || (X.env.scope.kind == .module && X.env.locals != X.env.globals)) = false := by rw [I.ok.kind]; rfl
 refine wpAny_nameGoes_keeps hl hn hcls fun h' v hn' hs => ?_
 have old : ∀ b o, X.s₀.heap.get? b = some o -> b ≠ X.env.locals := fun b o e => Nat.ne_of_lt (Nat.lt_of_lt_of_le (Heap.lt_size e) I.ok.above)
 have trk : HOk X.prog X.w H h' := fun b ob e => by
  refine (I.hok b ob e).stay (fun c w' hc q => (hs.2 c ?_).trans q) (fun _ q => q) fun _ _ q => q
  rintro rfl
  rcases hc with hc | hc
  ·rw [<- hc, I.free] at e; cases e
  ·rw [I.free] at hc; cases hc
 refine h _ ⟨I.ok, I.os, I.bare, ⟨fun b o e nn hb hx => (hs.2 b (old b o e)).trans (I.base.keep b o e nn hb hx), fun b o e nn hb hx => ?_, I.base.free, fun b o e hx => ?_, I.base.tups, I.base.frzs, I.base.tbls⟩,
  ⟨_, hn', fun j y v' e1 e2 e3 => ?_⟩, fun y c e => ?_, I.free, I.freeC, fun p hp => ?_, trk, by simpa using I.len⟩
 ·obtain ⟨sl, e1⟩ := I.base.slot b o e nn hb hx
  exact ⟨sl, (hs.2 b (old b o e)).trans e1⟩
 ·obtain ⟨o', e1⟩ := I.base.there b o e hx
  exact ⟨o', (hs.2 b (old b o e)).trans e1⟩
 ·by_cases hj : j = i
  ·subst hj
   rw [List.getElem?_set] at e2
   simp at e2
  ·rw [List.getElem?_set_ne (Ne.symm hj)] at e2
   obtain ⟨u', r', q⟩ := hv j y v' e1 e2 e3
   refine ⟨u', r', ?_⟩
   rcases q with ⟨k, e⟩ | ⟨k, c, e, z⟩
   ·refine .inl ⟨k, ?_⟩
    have : y ≠ n := fun e => hj (nH hN e1 (e ▸ hi))
    simp [this, e]
   ·exact .inr ⟨k, c, e, z.sameBut hs (I.cne y c e)⟩
 ·obtain ⟨w2, z2⟩ := I.cell y c e
  exact ⟨w2, z2.sameBut hs (I.cne y c e)⟩
 ·obtain ⟨e, nn, ne, nf, d⟩ := I.pin p hp
  exact ⟨(hs.2 p.1 ne).trans e, nn, ne, nf, d⟩
theorem land_inv {s1 : Shared} {h' B : Heap} {H' : Hp} {e C : Addr} {a0 : Value} (I : Inv X pins σ H s) (os : s1.os = s.os) (bare : AllBare s1.gens) (un : Un (frs X.stack) [] H H' s.heap s1.heap) (hok : HOk X.prog X.w H' s1.heap)
  (f1 : B.StaysIn s1.heap) (fl : Heap.FlyingW B X.stack e (.ref C) a0 h') (up : s1.heap.UpToSlots h') (hT : ∀ b u, H' b = some u -> ∃ o, B.get? b = some o) (hB : ∀ b o, s.heap.get? b = some o -> b ∉ frs X.stack -> ∃ o', B.get? b = some o') (he : s.heap.get? e = none) :
  Inv X pins σ (upd H' e (fC C e)) { s1 with heap := h' } := by
 have he' : H' e = none := by
  cases q : H' e with
  | none => rfl
  | some u =>
   obtain ⟨o, z⟩ := hT e u q
   rw [fl.2.1] at z; cases z
 have ne : ∀ b o, s.heap.get? b = some o -> b ≠ e := fun b o q z => by rw [z, he] at q; cases q
 have neT : ∀ b u, H b = some u -> b ≠ e := fun b u q => by
  obtain ⟨o, z⟩ := qN (I.hok b u q)
  exact ne b o z
 have slot : ∀ b o, s.heap.get? b = some o -> b ∈ frs X.stack -> ∃ sl, h'.get? b = some { o with slots := sl } := fun b o q hb => by
  obtain ⟨sl, q1⟩ := un.slot b o q (I.stkFree b hb) hb (by simp)
  obtain ⟨_, o2, ho2, hd⟩ := I.stack.mem hb
  rw [q] at ho2
  cases ho2
  obtain ⟨sl', z⟩ := up b _ q1 hd
  exact ⟨sl', z⟩
 obtain ⟨k1, k2, k3, oe, vs, T, oT, ts, hoe, ⟨hcls, h0⟩, hd, _⟩ := fl
 refine I.call' (s' := { s1 with heap := h' }) (ch := []) os ⟨fun b o q n hb _ => ?_, fun b o q n hb _ => slot b o q hb, fun b o q n _ => ?_, fun b o q _ => ?_, fun b xs q => ?_, fun b o u q => ?_, fun b ps q => ?_⟩ (fun b u q => ?_) bare fun b z => absurd z (by simp)
 ·obtain ⟨o', z⟩ := hB b o q hb
  exact mH f1 k1 z (un.keep b o q n hb (by simp))
 ·rw [aQ (ne b o q)]; exact un.free b o q n (by simp)
 ·by_cases hb : b ∈ frs X.stack
  ·obtain ⟨sl, z⟩ := slot b o q hb
   exact ⟨_, z⟩
  ·obtain ⟨o', z⟩ := hB b o q hb
   exact ⟨o', k1 b o' z⟩
 ·rw [aQ (neT b _ q)]; exact un.tups b xs q
 ·rw [aQ (neT b _ q)]; exact un.frzs b o u q
 ·rw [aQ (neT b _ q)]; exact un.tbls b ps q
 ·by_cases hb : b = e
  ·subst hb
   rw [aC] at q
   cases q
   exact ⟨⟨oe, hoe, hcls, vs, hd⟩, ⟨oe, hoe⟩, fun h1 h2 ⟨o, z, r⟩ st => ⟨o, st o z, r⟩⟩
  ·rw [aQ hb] at q
   refine (hok b u q).stay (fun c v hc r => ?_) (fun c r => by rw [aQ (bH r he')]; exact r) fun c xs r => by rw [aQ (bH r he')]; exact r
   have ⟨o', z⟩ : ∃ o', B.get? c = some o' := by
    rcases hc with z | z
    ·rw [z]; exact hT b u q
    ·exact hT c _ z
   exact mH f1 k1 z r
end
theorem cC {X : Cx} {P : Program} {w : World} : iU (CXE P w) X (fun _ _ _ _ => False) := fun pins σ H s e s' I h => by
 obtain ⟨_, _, _, _, _, _, _, _, _, _, _, _, _, _, hE⟩ := h
 exact hE.elim
section
variable {X : Cx} {c : Addr} {i : Nat} {x n : Str} {np hpos pos : Pos} {body suite : List Stmt} {b0 : Stmt} {tb : (St -> XK) -> TS} {ts : TS}
theorem ps_try (hst : X.stack = X.env :: X.outer) (hfr : X.env.frame = some X.env.locals) (hg : Gl X x) (hm : X.mg x = some (.ref c)) (hN : X.N.Nodup) (hi : X.N[i]? = some n) (hn : X.env.scope.names.lookup n = some .local)
  (hb : ∀ pn G, PSs (j0 X pn G) body (tb G)) (hs : ∀ pn e, PSs (gU X pn e) (b0 :: suite) ts) (hdb : (x == ("__debug__" : Str)) = false := by decide) :
  PS X (.Try body [.ExceptHandler (some (.Name x np)) (some n) (b0 :: suite) hpos] [] [] pos) (tTry X.K c i tb ts) := by
 intro pins s σ H D I h
 refine wpAny_Try_except ?_
 have okT : ∀ G, (j0 X (X.pn ++ pins) G).Ok := fun G => ⟨I.ok.mod, I.ok.kind, I.ok.glob, I.ok.blt, I.ok.above, I.ok.inj, I.ok.has, I.ok.cab, I.ok.hd, I.ok.frames, I.ok.stk, I.ok.exf, I.ok.bs, I.ok.bsz, I.ok.noex, I.ok.exfs, I.ok.funs, I.ok.frf⟩
 have okH : ∀ e, (gU X (X.pn ++ pins) e).Ok := fun e => ⟨I.ok.mod, I.ok.kind, I.ok.glob, I.ok.blt, I.ok.above, I.ok.inj, I.ok.has, I.ok.cab, fun z => (Bool.noConfusion z), I.ok.frames, I.ok.stk, I.ok.exf, I.ok.bs, I.ok.bsz, I.ok.noex, I.ok.exfs, I.ok.funs, I.ok.frf⟩
 have I0 : ∀ G, Inv (j0 X (X.pn ++ pins) G) [] σ H s := fun G => I.like (Y := j0 X (X.pn ++ pins) G) (okT G) rfl rfl rfl rfl rfl rfl rfl rfl fun p hp => I.pin p (by simpa [j0] using hp)
 refine wpAny_mono (hb (X.pn ++ pins) _ [] s σ H D (I0 _) h) (fun f s1 q => ?_) (fun ev s1 q => ?_)
 ·cases f with
  | next =>
   obtain ⟨σ', H', J, q⟩ := q
   exact wpAny_execs_nil ⟨σ', H', J.like (Y := X) I.ok rfl rfl rfl rfl rfl rfl rfl rfl fun p hp => J.pin p (by simpa [j0] using hp), q⟩
  | brk =>
   obtain ⟨σ', H', J, q⟩ := q
   exact ⟨σ', H', J.like (Y := X) I.ok rfl rfl rfl rfl rfl rfl rfl rfl fun p hp => J.pin p (by simpa [j0] using hp), q⟩
  | cont =>
   obtain ⟨σ', H', J, q⟩ := q
   exact ⟨σ', H', J.like (Y := X) I.ok rfl rfl rfl rfl rfl rfl rfl rfl fun p hp => J.pin p (by simpa [j0] using hp), q⟩
  | ret u =>
   obtain ⟨v, σ', H', J, r, q⟩ := q
   exact ⟨v, σ', H', J.like (Y := X) I.ok rfl rfl rfl rfl rfl rfl rfl rfl fun p hp => J.pin p (by simpa [j0] using hp), r, q⟩
 ·obtain ⟨σ1, H1, s0, J, e, C, a0, B, H', rfl, os, bare, un, hok, fl, hT, hB, he, C', hC, hx, hts⟩ := q
  cases hC
  have he' : H' e = none := by
   cases q : H' e with
   | none => rfl
   | some u =>
    obtain ⟨o, z⟩ := hT e u q
    rw [fl.2.1] at z; cases z
  have hfrm : X.A.frames = some (X.env :: X.outer) := by rw [<- hst]; exact I.ok.frames
  have fl0 : Heap.FlyingW B (X.env :: X.outer) e (.ref C) a0 s1.heap := by rw [<- hst]; exact fl
  have toH : ∀ {σ2 : St} {H2 : Hp} {s2 : Shared}, Inv { X with pn := X.pn ++ pins, xe := fun _ _ => False } [] σ2 H2 s2 -> Inv (gU X (X.pn ++ pins) e) [] σ2 H2 s2 := fun {σ2 H2 s2} L =>
   L.like (Y := gU X (X.pn ++ pins) e) (okH e) rfl rfl rfl rfl rfl rfl rfl rfl fun p hp => L.pin p (by simpa [gU] using hp)
  have toX : ∀ {σ2 : St} {H2 : Hp} {s2 : Shared}, Inv (gU X (X.pn ++ pins) e) [] σ2 H2 s2 -> Inv X pins σ2 H2 s2 := fun {σ2 H2 s2} L =>
   L.like (Y := X) I.ok rfl rfl rfl rfl rfl rfl rfl rfl fun p hp => L.pin p (by simpa [gU] using hp)
  have land : ∀ h', Heap.FlyingW B (X.env :: X.outer) e (.ref C) a0 h' -> s1.heap.UpToSlots h' -> Inv (gU X (X.pn ++ pins) e) [] σ1 (upd H' e (fC C e)) { s1 with heap := h' } := fun h' f u =>
   toH (land_inv J os bare un hok fl.1 (by show Heap.FlyingW B X.stack e (.ref C) a0 h'; rw [hst]; exact f) u hT hB he)
  refine wpAny_looks_onW hfrm hfr fl0 fun h4 held4 up4 => ?_
  refine wpAny_landsW held4 fun h5 fl5 up5 => ?_
  have K5 := land h5 fl5 (up4.trans up5)
  refine wpAny_handleBy_cons (codeAny_handlers_test (iZ (X := gU X (X.pn ++ pins) e) K5 hg hm ?_ hdb)) (by intro q; cases q)
  have LT : PySem.W.Looks (model X.prog X.w) h5 (typeOf (.ref e)) (.ref C) := by
   obtain ⟨ob, hob, hcl⟩ := fl5.there
   exact hcl ▸ (PySem.W.Looks.ld hob).andThen .now
  refine (PySem.W.exm_one (K := X.K) K5.kIn LT hx).here ?_
  refine codeAny_handlers_suite_as ?_
  refine lands_againW fl5 fun h6 fl6 up6 => ?_
  have K6 := land h6 fl6 (up4.trans (up5.trans up6))
  refine m7 (X := gU X (X.pn ++ pins) e) K6 hN hi (.inl hn) (v := .ref e) rfl (fun s7 K7 => ?_) (.inr hn)
  refine wpAny_mono (hs (X.pn ++ pins) e [] s7 (σ1.set i (some (.ref e))) _ _ K7 (hts e he')) (fun f s8 q8 => ?_) (fun _ _ z => z.elim)
  cases f with
  | next =>
   obtain ⟨σ8, H8, K8, q8⟩ := q8
   exact mS (X := gU X (X.pn ++ pins) e) K8 hN hi hn fun s9 K9 => ⟨_, _, toX K9, q8⟩
  | brk =>
   obtain ⟨σ8, H8, K8, q8⟩ := q8
   exact mS (X := gU X (X.pn ++ pins) e) K8 hN hi hn fun s9 K9 => ⟨_, _, toX K9, q8⟩
  | cont =>
   obtain ⟨σ8, H8, K8, q8⟩ := q8
   exact mS (X := gU X (X.pn ++ pins) e) K8 hN hi hn fun s9 K9 => ⟨_, _, toX K9, q8⟩
  | ret u =>
   obtain ⟨v, σ8, H8, K8, r8, q8⟩ := q8
   exact mS (X := gU X (X.pn ++ pins) e) K8 hN hi hn fun s9 K9 => ⟨_, _, _, toX K9, r8, q8⟩
end
end L2
namespace L2
open PySem PySem.Spec PyProof.Rows
structure ExcA (K : PySem.W.Frag) (C : Addr) : Prop where
 ga : PySem.W.findIn K (.ref C) "__getattribute__" = some (some (.builtin "BaseException.__getattribute__"))
 gg : PySem.W.findIn K (.ref C) "__getattr__" = some none
 ca : PySem.W.findIn K (.ref C) "__class__" = some (some (.builtin "object.__class__"))
 sp : PySem.W.specialIn K (.builtin "object.__class__") "__get__" = some (some (.builtin "getset_descriptor.__get__"))
 tk : PySem.W.takesIn K (.builtin "object.__class__") = some true
 ob : PySem.W.mroIn K C (.type "object") = some true
 be : PySem.W.mroIn K C (.type "BaseException") = some true
section
variable {prog : Program} {w : World} {A : Around} {E : Value -> Shared -> Prop} {s : Shared} {K : PySem.W.Frag} {x C : Addr}
open PySem.W Builtin Builtin.ObjectAttr Builtin.Getset_descriptor in
theorem exc_class_get {R : Result -> Shared -> Prop} {tp : Value} (X : K.In s.heap) (L : Looks (model prog w) s.heap (typeOf (.ref x)) (.ref C)) (hm : mroIn K C (.type "object") = some true)
  (h : R (.ok (.ret (.ref C))) s) : codeAny (model prog w) A (.call (.builtin "getset_descriptor.__get__") ⟨[.builtin "object.__class__", .ref x, tp], []⟩) R s := by
 obtain ⟨hp, g, dr, t, os⟩ := s
 have L1 := looks_mroIn (M := model prog w) X hm
 refine (codeAny_call_builtin KF.slot_gs.plain KF.entry_gs (KF.slot_gs.check _ _ _ _ _ _ _ _ KF.type_class (KF.args_gs _ _ _) ?_))
 unfold Builtin.«getset_descriptor.__get__» descrGet
 rw [dga_obj]
 refine (wpAny_bind (wpAny_pure ?_))
 unfold descrGetter descrCheckInstance descrNameAndClass isInstance
 simp only [KF.owner_class]
 repeat lk
 refine ⟨Code.quiet_builtin _ (by decide +kernel), (codeAny_builtin KF.entry_class ?_)⟩
 unfold Builtin.«object.__class__» shownTypeOf
 repeat lk
 exact h
open PySem.W in
theorem exc_find {M : Model} {h : Heap} (X : K.In h) (q : ExcA K C) : Looks M h (Builtin.ObjectAttr.find (.ref x) (.ref C) "__class__") (.bind (.builtin "getset_descriptor.__get__") (.builtin "object.__class__")) := by
 have L1 := looks_findIn (M := M) X q.ca
 have L2 := looks_specialIn (M := M) X q.sp
 have L3 := looks_takesIn (M := M) X q.tk
 have L4 : Looks M h (Builtin.ObjectAttr.dataDescriptor? (some (.builtin "object.__class__")) (some (.builtin "getset_descriptor.__get__"))) (some (.builtin "getset_descriptor.__get__", .builtin "object.__class__")) := L3.andThen .now
 exact L1.andThen (L2.andThen (L4.andThen (Looks.tag .now)))
open PySem.W in
theorem exc_ga_body {tk : Tok} {Q : Fin -> Shared -> Prop} (X : K.In s.heap) (L : Looks (model prog w) s.heap (typeOf (.ref x)) (.ref C)) (q : ExcA K C) (h : Q (.done (.ret (.ref C))) s) :
  wpAny (model prog w) A (Builtin.«object.__getattribute__» ⟨[.ref x, .str "__class__" tk], []⟩) Q E s := by
 obtain ⟨hp, g, d, t, os⟩ := s
 have F1 := exc_find (M := model prog w) (x := x) X q
 unfold Builtin.«object.__getattribute__»
 refine wpAny_bind (wpAny_of_eq (a := (Value.ref x, [Value.str "__class__" tk])) (by rfl) ?_)
 refine wpAny_bind (wpAny_of_eq (a := ("__class__" : Str)) (by rfl) ?_)
 refine wpAny_bind (L.at (wpAny_bind (F1.at ?_)))
 show wpAny _ _ (Builtin.ObjectAttr.bindTo (.builtin "getset_descriptor.__get__") (.builtin "object.__class__") (.ref x) (.ref C)) _ _ _
 unfold Builtin.ObjectAttr.bindTo
 refine wpAny_bind (wpAny_holding (wpAny_call (exc_class_get X L q.ob ?_)))
 exact wpAny_pure h
theorem exc_check {M : Model} {nameV : Value} {Q : Unit -> Shared -> Prop} (L : PySem.W.Looks M s.heap (typeOf (.ref x)) (.ref C)) (LB : PySem.W.Looks M s.heap (isSubtype (.ref C) (.type "BaseException")) true) (hq : Q () s) :
  wpAny M A (checkBuiltinCall "BaseException.__getattribute__" ⟨[.ref x, nameV], []⟩) Q E s := by
 obtain ⟨hp, g, d, t, os⟩ := s
 have hk : builtinKind "BaseException.__getattribute__" = some .slot := by decide +kernel
 have hsplit : splitId "BaseException.__getattribute__" = some ("BaseException", "__getattribute__") := by decide +kernel
 have ha := F.args_bexc_ga (.ref x) nameV
 simp only [checkBuiltinCall, hk, hsplit]
 refine wpAny_bind ((L.andThen LB : PySem.W.Looks M hp (isInstance (.ref x) (.type "BaseException")) true).at ?_)
 repeat (any_goals (first | assumption | wp_step))
open PySem.W in
theorem exc_class {Q : Option Value -> Shared -> Prop} (X : K.In s.heap) (L : Looks (model prog w) s.heap (typeOf (.ref x)) (.ref C)) (q : ExcA K C) (h : Q (some (.ref C)) { s with toks := s.toks + 1 }) : wpAny (model prog w) A (getAttr? (.ref x) "__class__") Q E s := by
 obtain ⟨hp, g, d, t, os⟩ := s
 have L1 := looks_findIn (M := model prog w) X q.ga
 have L2 := looks_findIn (M := model prog w) X q.gg
 have L3 := looks_mroIn (M := model prog w) X q.be
 unfold getAttr? getAttrBy? getAttrBy
 refine wpAny_bind (wpAny_mkText (wpAny_bind (wpAny_attempt (wpAny_holding (wpAny_bind (L.at (wpAny_bind (L1.at ?_))))))))
 have e : (onTheHeap (Value.ref C) && Value.builtin "BaseException.__getattribute__" == Value.builtin "object.__getattribute__") = false := by
  have : (Value.builtin "BaseException.__getattribute__" == Value.builtin "object.__getattribute__") = false := by decide +kernel
  rw [this]; rfl
 dsimp only
 rw [e, if_neg Bool.false_ne_true]
 unfold getAttrByItsOwn hookBefore
 refine wpAny_bind ?_
 show wpAny _ _ (typeLookup (.ref C) "__getattr__") _ _ _
 refine L2.at ?_
 refine wpAny_bind (wpAny_attempt (wpAny_holding ?_))
 show wpAny _ _ (boundAndCalled (.builtin "BaseException.__getattribute__") (.ref x) (.str "__class__" t)) _ _ _
 unfold boundAndCalled
 refine wpAny_bind (wpAny_of_eq (F.attr_ValueError.ga.bind (.ref x)) ?_)
 show wpAny _ _ (call (.builtin "BaseException.__getattribute__") [.ref x, .str "__class__" t]) _ _ _
 refine wpAny_call (codeAny_call_builtin F.attr_ValueError.ga.plain F.entry_bexc_ga (exc_check L L3 (exc_ga_body X L q ?_)))
 exact wpAny_pure (wpAny_pure h)
theorem kitx_exc (q : ExcA K C) (hc : (PySem.W.clsIn K C).isSome = true) : PySem.W.KitX K (.ref x) (.ref C) (fun h => ∃ o, h.get? x = some o /\ o.cls = .ref C) where
 ty := fun M h _ ⟨o, e, c⟩ => c ▸ (PySem.W.Looks.ld e).andThen .now
 it := fun M h X _ => by
  obtain ⟨cd, hcd⟩ := Option.isSome_iff_exists.mp hc
  unfold PySem.W.clsIn at hcd
  split at hcd
  ·rename_i ho
   intro A' Q' E' s' k z
   unfold isType loadHead
   exact wpAny_bind (wpAny_loadPart (k _ _ (X _ _ ho)) (wpAny_pure z))
  ·cases hcd
 ne := fun h tp dd its n sl X htp => by
  obtain ⟨cd, hcd⟩ := Option.isSome_iff_exists.mp hc
  refine Bool.eq_false_iff.mpr fun z => ?_
  have e : C = tp := Value.ref.inj (beq_iff_eq.mp z)
  subst e
  unfold PySem.W.clsIn at hcd
  split at hcd
  ·rename_i ho
   have z2 := (X _ _ ho).symm.trans htp
   cases z2
  ·cases hcd
 ca := fun X ⟨o, e, c⟩ k => exc_class X (c ▸ (PySem.W.Looks.ld e).andThen .now) q k
end
section
variable {X : Cx} {K : PySem.W.Frag}
theorem mro_cls {K : PySem.W.Frag} {C : Addr} {b : Value} {r : Bool} (e : PySem.W.mroIn K C b = some r) : (PySem.W.clsIn K C).isSome = true := by
 obtain ⟨cd, a, _⟩ := Option.bind_eq_some_iff.mp e
 rw [a]; rfl
theorem dD (hK : X.K = K) : dX X (.builtin "isinstance") (fun xs H Q => ∃ a C c cv b, xs = [.ref a, c] /\ clsV c = some cv /\ H a = some (fC C a) /\ ExcA K C /\ PySem.W.kitOne K (.ref C) cv = some b /\ Q (.bl b) H) := by
 subst hK
 intro pins s σ H xs us Q I r h
 obtain ⟨a, C, c, cv, b, rfl, hc, hE, hA, e, q⟩ := h
 obtain ⟨u, u', rfl, r1, r2⟩ := vals2 r
 obtain rfl : u = Value.ref a := r1
 obtain rfl := clsV_rel hc r2
 obtain ⟨⟨o, ho, hcl, _⟩, _⟩ := (show ObjOk X.prog X.w H s.heap a (fC C a) from I.hok a _ hE)
 exact PySem.W.kia_one (kitx_exc hA (mro_cls hA.ob)) I.kIn ⟨o, ho, hcl⟩ e (fun z => nomatch z) fun tk => ⟨.bl b, H, I.tok tk, rfl, q⟩
end
end L2
namespace L2
open PySem PySem.Spec PyProof.Rows
theorem eqAt_rel {A : Around} {s : Shared} {x : V} {u v : Value} (h1 : RelV x u) (h2 : RelV x v) (hf : ∀ z, x ≠ .flt z) (hb : ∀ z, x ≠ .byt z) : SeqAt.EqAt A s u v true := by
 cases x with
 | non => cases h1; cases h2; exact SeqAt.EqAt.same _
 | bl b => cases h1; cases h2; exact SeqAt.EqAt.same _
 | int i =>
  obtain ⟨t, rfl⟩ := h1
  obtain ⟨t', rfl⟩ := h2
  have := SeqAt.EqAt.int_int (A := A) (s := s) i t i t'
  rwa [beq_self_eq_true] at this
 | str z =>
  obtain ⟨t, rfl⟩ := h1
  obtain ⟨t', rfl⟩ := h2
  have := SeqAt.EqAt.str_str (A := A) (s := s) z t z t'
  rwa [beq_self_eq_true] at this
 | byt z => exact absurd rfl (hb z)
 | flt z => exact absurd rfl (hf z)
 | ref a => cases h1; cases h2; exact SeqAt.EqAt.same _
 | ty n => cases h1; cases h2; exact SeqAt.EqAt.same _
def jA : V -> Bool
 | .flt _ => false
 | .byt _ => false
 | _ => true
theorem iW {xs : List V} {us : List Value} (r : Vals xs us) {j : Nat} (h1 : j < xs.length) (h2 : j < us.length) : RelV xs[j] us[j] := by
 obtain ⟨u, e, q⟩ := r.get (i := j) (x := xs[j]) (by simp [h1])
 have : us[j]? = some us[j] := by simp [h2]
 rw [this] at e
 cases e
 exact q
section
variable {X : Cx} {K : PySem.W.Frag}
theorem op_eqTI (hK : X.K = K) (hu : X.A.units < cLine) : OpR X (compareOp .Eq) (fun x y H Q => ∃ (a b : Addr) (ns ms : List Int), x = .ref a /\ y = .ref b /\ SqT K H a (ns.map V.int) /\ SqT K H b (ms.map V.int) /\ Q (.bl (decide (ns = ms))) H) := by
 subst hK
 intro pins s σ H x y v u Q I rx ry h
 obtain ⟨a, b, ns, ms, rfl, rfl, ha, hb, q⟩ := h
 cases rx
 cases ry
 obtain ⟨its, r1, p1, _⟩ := I.tuple ha
 obtain ⟨jts, r2, p2, _⟩ := I.tuple hb
 have l1 := r1.length
 have l2 := r2.length
 rw [List.length_map] at l1 l2
 refine SeqAt.eq_tupleAt (e := fun j => decide (ns[j]? = ms[j]?)) p1 p2 hu (fun j h1 h2 => ?_) ?_
 ·have g1 : j < its.length := by simpa using h1
  have g2 : j < jts.length := by simpa using h2
  have n1 : j < ns.length := by omega
  have n2 : j < ms.length := by omega
  have z1 := iW r1 (by simpa using n1) g1
  have z2 := iW r2 (by simpa using n2) g2
  rw [List.getElem_map] at z1 z2
  obtain ⟨t, e1⟩ := z1
  obtain ⟨t', e2⟩ := z2
  have := SeqAt.EqAt.int_int (A := X.A.in1) (s := s) ns[j] t ms[j] t'
  have e3 : decide (ns[j]? = ms[j]?) = (ns[j] == ms[j]) := by
   rw [Bool.eq_iff_iff]; simp [n1, n2]
  simp only [List.getElem_toArray]
  rw [e1, e2, e3]
  exact this
 ·have e : ((List.range (min its.toArray.size jts.toArray.size)).all (fun j => decide (ns[j]? = ms[j]?)) && its.toArray.size == jts.toArray.size) = decide (ns = ms) := by
   rw [Bool.eq_iff_iff, Bool.and_eq_true, List.all_eq_true, decide_eq_true_iff]
   constructor
   ·rintro ⟨h1, h2⟩
    have hl : ns.length = ms.length := by simp at h2; omega
    refine List.ext_getElem? fun j => ?_
    by_cases hj : j < ns.length
    ·exact of_decide_eq_true (h1 j (List.mem_range.mpr (by simp; omega)))
    ·rw [List.getElem?_eq_none (by omega), List.getElem?_eq_none (by omega)]
   ·rintro rfl
    exact ⟨fun j _ => decide_eq_true rfl, by simp; omega⟩
  rw [e]
  exact ⟨.bl (decide (ns = ms)), H, I, rfl, q⟩
end
end L2
namespace L2
open PySem PySem.Spec PyProof.Rows
structure DefAt (K : PySem.W.Frag) (x : Str) (st : Stmt) : Prop where
 ex : ∃ (f : Addr) (oc : Value) (od : Option Addr) (osl : Array (Option Value)) (kV doc pm : Value) (an : Option Addr) (cdv ct : Value), PySem.W.nsIn K mainGlobals x = some (some (.ref f)) /\
  K.lookup f = some ⟨oc, od, .func (PySem.W.fnOf x x (gO st) (eQ st) (aG st) .none kV doc pm an cdv ct), osl⟩ /\ PySem.W.codeIn K cdv x = true /\ PySem.W.keepIn K (.ref f) = true
theorem defAt {K : PySem.W.Frag} {x : Str} {st : Stmt} {f : Addr} {oc : Value} {od : Option Addr} {osl : Array (Option Value)} {kV doc pm : Value} {an : Option Addr} {cdv ct : Value} (a : PySem.W.nsIn K mainGlobals x = some (some (.ref f)))
  (l : K.lookup f = some ⟨oc, od, .func (PySem.W.fnOf x x (gO st) (eQ st) (aG st) .none kV doc pm an cdv ct), osl⟩) (c : PySem.W.codeIn K cdv x = true) (k : PySem.W.keepIn K (.ref f) = true) : DefAt K x st := ⟨⟨f, oc, od, osl, kV, doc, pm, an, cdv, ct, a, l, c, k⟩⟩
def BindAt (x : Str) (st : Stmt) (ps : List Str) : Prop := ∀ (kV doc pm : Value) (an : Option Addr) (cdv ct : Value) (us : List Value), us.length = ps.length -> bindArgs (PySem.W.fnOf x x (gO st) (eQ st) (aG st) .none kV doc pm an cdv ct) ⟨us, []⟩ = pure (ps.zip us)
section
variable {P : Program} {w : World} {K : PySem.W.Frag} {mg : Str -> Option Value} {base h : Heap} {x : Str} {st : Stmt} {ps : List Str} {k : Nat} {sp : Sp}
theorem DefAt.cal (D : DefAt K x st) (X : K.In h) (G : h.Ns mainGlobals mg) (hb : BindAt x st ps) (mk : ∀ f fd, Fun K x x st f fd -> FnOk P w K mg base CX0 k f fd ps sp) : Cal P w K mg base k x ps sp := by
 obtain ⟨f, oc, od, osl, kV, doc, pm, an, cdv, ct, a, l, c, kk⟩ := D.ex
 have F := fun_mk (st := st) l c kk
 exact ⟨⟨f, _, mk f _ F, PySem.W.mg_of X G a, kk, F.binds hb⟩⟩
theorem DefAt.law {fa : Addr} {y : Str} (D : DefAt K x st) (X : K.In h) (G : h.Ns mainGlobals mg) (hfa : mg x = some (.ref fa)) (hb : BindAt x st [y]) (mk : ∀ f fd (base : Heap), Fun K x x st f fd -> K.In base -> base.Ns mainGlobals mg -> FnOk P w K mg base CX0 k f fd [y] sp) :
  ∃ fd : FuncData, (∀ (s : Shared) (u : Value), BindsTo s fd ⟨[u], []⟩ [(y, u)]) /\ ∀ base : Heap, K.In base -> base.Ns mainGlobals mg -> FnOk P w K mg base CX0 k fa fd [y] sp := by
 obtain ⟨f, oc, od, osl, kV, doc, pm, an, cdv, ct, a, l, c, kk⟩ := D.ex
 have F := fun_mk (st := st) l c kk
 have e := hfa.symm.trans (PySem.W.mg_of X G a)
 cases e
 exact ⟨_, fun s u => .of_eq (hb kV doc pm an cdv ct [u] rfl), fun base kb nb => mk fa _ base F kb nb⟩
theorem txt_nil : Txt [] mg := ⟨fun _ h => absurd h (by simp)⟩
theorem txt_cons {y : Str} {BN : List Str} (X : K.In h) (G : h.Ns mainGlobals mg) (a : PySem.W.nsIn K mainGlobals y = some none) (r : Txt BN mg) : Txt (y :: BN) mg := ⟨fun z hz => by
 rcases List.mem_cons.mp hz with e | e
 ·rw [e]; exact PySem.W.mg_none_of X G a
 ·exact r.nb z e⟩
end
def spLaw (K : PySem.W.Frag) : Sp := fun vs H Q _ => ∃ (a : Addr) (ns : List Int), vs = [.ref a] /\ SqL K H a (ns.map V.int) /\ ns.length <= 63 /\ ∀ H', Q (.bl true) H'
theorem walkLaw {l : PySem.W.OpenLaw} {q : Program} {loose : List Str} {XP : (Str -> Option Value) -> Heap -> Prop} {YP : World -> Heap -> Prop} {d : DefRec} {K : Params -> PySem.W.Frag} {k : Nat} {x : Str} (hn : l.most = some 63) (hdf : d.params.defaults = []) (hk : Room k callerA)
  (hY : ∀ (w : World) (h : Heap), YP w h -> (K w.params).In h)
  (F : ∀ (w : World) (mg : Str -> Option Value) (fa : Addr) (h : Heap), (K w.params).In h -> h.Ns mainGlobals mg -> mg d.name = some (.ref fa) ->
   ∃ fd : FuncData, (∀ (s : Shared) (u : Value), BindsTo s fd ⟨[u], []⟩ [(x, u)]) /\ ∀ base : Heap, (K w.params).In base -> base.Ns mainGlobals mg -> FnOk l.prog w (K w.params) mg base CX0 k fa fd [x] (spLaw (K w.params))) :
  PySem.W.WalkO q loose XP YP l.row.toRowW d [] (fun f vs => PySem.call f vs) :=
 L2.walk_of (n := 63) (k := k) (x := x) (CX := fun _ => CX0) (sp := fun w => spLaw (K w.params)) hn (by decide) hdf hk hY F (fun _ _ a ns hl _ hS => ⟨a, ns, rfl, hS, hl, fun _ => rfl⟩) fun _ _ _ _ _ z => z
def pS (ns : List Int) (lo hi : Option Int) : List Int := (ns.drop (HT.sIx ns.length 0 lo)).take (HT.sIx ns.length ns.length hi - HT.sIx ns.length 0 lo)
theorem cut_map (ns : List Int) (lo hi : Option Int) : cP (ns.map V.int) lo hi = (pS ns lo hi).map V.int := by
 unfold cP pS
 rw [List.length_map, List.map_take, List.map_drop]
end L2
namespace Mw
theorem iabs (i : Int) : (if i < 0 then -i else i) = (i.natAbs : Int) := by
 split <;> omega
theorem gcd_turn {a b : Int} (ha : 0 <= a) (hb : 0 <= b) : Int.gcd b (a % b) = Int.gcd a b := by
 have e1 : ((a.natAbs : Nat) : Int) = a := Int.natAbs_of_nonneg ha
 have e2 : ((b.natAbs : Nat) : Int) = b := Int.natAbs_of_nonneg hb
 rw [<- e1, <- e2, <- Int.natCast_emod, Int.gcd_natCast_natCast, Int.gcd_natCast_natCast, Nat.gcd_comm a.natAbs, Nat.gcd_rec b.natAbs a.natAbs]
 exact Nat.gcd_comm _ _
theorem gcd_end {a : Int} (ha : 0 <= a) : (Int.gcd a 0 : Int) = a := by rw [Int.gcd_zero_right]; exact Int.natAbs_of_nonneg ha
theorem gcd_abs (a b : Int) : Int.gcd (a.natAbs : Int) (b.natAbs : Int) = Int.gcd a b := by
 rw [Int.gcd_natCast_natCast]; rfl
def fac (t b : Int) : Int := if b < 0 then -(Int.gcd t b : Int) else (Int.gcd t b : Int)
theorem fac_ne {t b : Int} (h : b ≠ 0) : fac t b ≠ 0 := by
 have := Int.gcd_pos_of_ne_zero_right t h
 unfold fac; split <;> omega
theorem jH (t b : Int) : fac t b ∣ t := by
 unfold fac; split
 ·exact Int.neg_dvd.mpr (Int.gcd_dvd_left t b)
 ·exact Int.gcd_dvd_left t b
theorem iJ (t b : Int) : fac t b ∣ b := by
 unfold fac; split
 ·exact Int.neg_dvd.mpr (Int.gcd_dvd_right t b)
 ·exact Int.gcd_dvd_right t b
theorem fac_abs (t b : Int) : (fac t b).natAbs = Int.gcd t b := by
 unfold fac; split <;> omega
def aL (t b : Int) : Int := t / fac t b
def aI (t b : Int) : Int := b / fac t b
theorem ptop_mul (t b : Int) : aL t b * fac t b = t := Int.ediv_mul_cancel (jH t b)
theorem kQ (t b : Int) : aI t b * fac t b = b := Int.ediv_mul_cancel (iJ t b)
theorem bR {t b : Int} (h : b ≠ 0) : 0 < aI t b := by
 have e := kQ t b
 have g := Int.gcd_pos_of_ne_zero_right t h
 rcases Int.lt_or_lt_of_ne h with hb | hb
 ·have f : fac t b < 0 := by unfold fac; rw [if_pos hb]; omega
  rcases Int.lt_trichotomy (aI t b) 0 with q | q | q
  ·have := Int.mul_pos_of_neg_of_neg q f; omega
  ·rw [q] at e; omega
  ·exact q
 ·have f : 0 < fac t b := by unfold fac; rw [if_neg (by omega)]; omega
  rcases Int.lt_trichotomy (aI t b) 0 with q | q | q
  ·have := Int.mul_neg_of_neg_of_pos q f; omega
  ·rw [q] at e; omega
  ·exact q
theorem gC {t b : Int} (h : b ≠ 0) : Int.gcd (aL t b) (aI t b) = 1 := by
 unfold aL aI
 rw [Int.gcd_ediv (jH t b) (iJ t b), fac_abs]
 exact Nat.div_self (Int.gcd_pos_of_ne_zero_right t h)
theorem cH {t b : Int} : aL t b * b = t * aI t b := by
 have e1 := ptop_mul t b
 have e2 := kQ t b
 calc aL t b * b = aL t b * (aI t b * fac t b) := by rw [e2]
  _ = aL t b * fac t b * aI t b := by rw [Int.mul_comm (aI t b), Int.mul_assoc]
  _ = t * aI t b := by rw [e1]
theorem ptop_fdiv (t b : Int) : t.fdiv (fac t b) = aL t b := Int.fdiv_eq_ediv_of_dvd (jH t b)
theorem pbot_fdiv (t b : Int) : b.fdiv (fac t b) = aI t b := Int.fdiv_eq_ediv_of_dvd (iJ t b)
theorem gJ (t b : Int) : (aL t b).natAbs <= t.natAbs := by
 unfold aL; exact Int.natAbs_ediv_le_natAbs _ _
theorem gK (t b : Int) : (aI t b).natAbs <= b.natAbs := by
 unfold aI; exact Int.natAbs_ediv_le_natAbs _ _
theorem lY {t b : Int} (h : b ≠ 0) : Int.gcd t b <= b.natAbs := by
 have := Int.gcd_dvd_right t b
 exact Nat.le_of_dvd (by omega) (by have q := Int.natAbs_dvd_natAbs.mpr this; simpa using q)
def mixed (c k : Int) : Int := ((c % 10 ^ 30 + 7919 * k * k + 13 * k + 5) * 48271 % 2147483647 * 69621 + 5 * k + 1) % 2147483629
end Mw
namespace Mw
def cU (bs : List Int) : Int := bs.foldl (fun m n => m * (n / (Int.gcd m n : Int))) 1
theorem mU (m n : Int) : m ∣ m * (n / (Int.gcd m n : Int)) := Int.dvd_mul_right _ _
theorem lU (m n : Int) : n ∣ m * (n / (Int.gcd m n : Int)) := by
 have g1 : (Int.gcd m n : Int) ∣ m := Int.gcd_dvd_left m n
 have g2 : (Int.gcd m n : Int) ∣ n := Int.gcd_dvd_right m n
 have e2 := Int.mul_ediv_cancel' g2
 obtain ⟨q, hq⟩ := g1
 refine ⟨q, ?_⟩
 calc m * (n / (Int.gcd m n : Int)) = ((Int.gcd m n : Int) * q) * (n / (Int.gcd m n : Int)) := by rw [<- hq]
  _ = ((Int.gcd m n : Int) * (n / (Int.gcd m n : Int))) * q := by rw [Int.mul_assoc, Int.mul_comm q, <- Int.mul_assoc]
  _ = n * q := by rw [e2]
theorem lcmG_dvd : ∀ (bs : List Int) (m : Int), (m ∣ bs.foldl (fun m n => m * (n / (Int.gcd m n : Int))) m) /\ ∀ b ∈ bs, b ∣ bs.foldl (fun m n => m * (n / (Int.gcd m n : Int))) m
 | [], m => ⟨Int.dvd_refl _, fun _ h => absurd h (by simp)⟩
 | b :: r, m => by
  obtain ⟨h1, h2⟩ := lcmG_dvd r (m * (b / (Int.gcd m b : Int)))
  refine ⟨Int.dvd_trans (mU m b) h1, fun x hx => ?_⟩
  rcases List.mem_cons.mp hx with e | e
  ·rw [e]; exact Int.dvd_trans (lU m b) h1
  ·exact h2 x e
theorem lcmF_dvd {bs : List Int} {b : Int} (h : b ∈ bs) : b ∣ cU bs := (lcmG_dvd bs 1).2 b h
theorem qM (bs : List Int) (b : Int) : cU (bs ++ [b]) = cU bs * (b / (Int.gcd (cU bs) b : Int)) := by
 unfold cU; rw [List.foldl_append]; rfl
end Mw
namespace L2
theorem iteN {c A B : Prop} [Decidable c] (hc : ¬ c) (h : A) : if (!decide c) = true then A else B := by
 rw [decide_eq_false hc]; exact iI h
theorem c9 {c A B : Prop} [Decidable c] (h1 : c -> A) (h2 : ¬ c -> B) : if decide c = true then A else B := by
 by_cases h : c
 ·rw [decide_eq_true h]; exact iI (h1 h)
 ·rw [decide_eq_false h]; exact eD (h2 h)
end L2
namespace Mw
open PySem L2
theorem b9 {α : Type} {l : List α} {i : Nat} {x : α} (h : l[i]? = some x) : l.take (i + 1) = l.take i ++ [x] := by
 rw [List.take_add_one, h]; rfl
theorem aS {α : Type} {g : α -> V} {l : List α} {i : Nat} {v : V} (h : (l.map g)[i]? = some v) : ∃ x, l[i]? = some x /\ v = g x := by
 rw [List.getElem?_map] at h
 cases e : l[i]? with
 | none => rw [e] at h; cases h
 | some x => rw [e] at h; exact ⟨x, rfl, (Option.some.inj h).symm⟩
theorem paired_get {α β : Type} {R : α -> β -> Prop} : ∀ {as : List α} {bs : List β} {i : Nat} {a : α}, Paired R as bs -> as[i]? = some a -> ∃ b, bs[i]? = some b /\ R a b
 | _, _, _, _, .nil, e => by simp at e
 | _, _, 0, _, .cons r _, e => by simp at e; subst e; exact ⟨_, rfl, r⟩
 | _, _, i + 1, a, .cons _ t, e => by
  obtain ⟨b, h1, h2⟩ := paired_get (i := i) (a := a) t (by simpa using e)
  exact ⟨b, by simpa using h1, h2⟩
theorem paired_get' {α β : Type} {R : α -> β -> Prop} : ∀ {as : List α} {bs : List β} {i : Nat} {b : β}, Paired R as bs -> bs[i]? = some b -> ∃ a, as[i]? = some a /\ R a b
 | _, _, _, _, .nil, e => by simp at e
 | _, _, 0, _, .cons r _, e => by simp at e; subst e; exact ⟨_, rfl, r⟩
 | _, _, i + 1, b, .cons _ t, e => by
  obtain ⟨a, h1, h2⟩ := paired_get' (i := i) (b := b) t (by simpa using e)
  exact ⟨a, by simpa using h1, h2⟩
theorem c6 {σ2 : St} {n : Nat} (h : σ2.length = n) : Wk (List.replicate n none) σ2 := by
 refine ⟨by rw [h, List.length_replicate], fun i v e => ?_⟩
 rw [List.getElem?_replicate] at e
 split at e <;> cases e
theorem iQ {i j : Int} (h1 : -18446744073709551616 < i) (h2 : i < 18446744073709551616) (h3 : -18446744073709551616 < j) (h4 : j < 18446744073709551616) : CMulB i j := by
 have e : (2 : Nat) ^ 64 = 18446744073709551616 := by decide
 refine ⟨64, by decide, ?_, ?_⟩
 ·show i.natAbs < 2 ^ 64
  omega
 ·show j.natAbs < 2 ^ 64
  omega
theorem fX {i j : Int} (h1 : 0 < j) (h2 : j < 18446744073709551616) : CDivP i j := by
 have e : (2 : Nat) ^ 64 = 18446744073709551616 := by decide
 refine ⟨h1, Bits.mono (n := 64) ?_ (by decide)⟩
 show j.natAbs < 2 ^ 64
 omega
theorem e30 : (10 : Int) ^ 30 = 1000000000000000000000000000000 := by decide
theorem at_list {ds : List Int} {k : Nat} {z : Int} (hk : k < ds.length) (hz : z = (k : Int)) : ∃ d, d ∈ ds /\ atI (ds.map V.int) z = some (.int d) := by
 subst hz
 exact ⟨ds[k], List.getElem_mem hk, bW (by rw [List.getElem?_map, List.getElem?_eq_getElem hk]; rfl)⟩
def spGcd : Sp := fun vs H Q _ => ∃ a b : Int, vs = [.int a, .int b] /\ Q (.int (Int.gcd a b)) H
def spMixed : Sp := fun vs H Q _ => ∃ c k : Int, vs = [.int c, .int k] /\ 0 <= k /\ k < 1048576 /\ Q (.int (mixed c k)) H
def spDraws (K : PySem.W.Frag) : Sp := fun vs H Q _ => ∃ (c m n y : Int), vs = [.int c, .int m, .int n, .int y] /\ 0 < m /\ Bits 9000 m /\ 0 <= n /\ n <= 1000 /\
 ∀ r H' (ds : List Int), H r = none -> Same H H' -> H' r = some (.lst (ds.map V.int)) -> ds.length = n.toNat -> (∀ d ∈ ds, 0 <= d /\ d < m) -> Q (.ref r) H'
end Mw
namespace L2
open PySem PySem.Spec PyProof.Rows
def tJoin (t : TS) : TS := fun D σ H => ∃ J : St -> Hp -> Prop, t { D with nx := J } σ H /\ ∀ σ' H', J σ' H' -> D.nx σ' H'
theorem cW {X : Cx} {st : Stmt} {t : TS} (h : PS X st t) : PS X st (tJoin t) := fun pins s σ H D I ⟨J, h1, h2⟩ => thn (h pins s σ H _ I h1) fun f s' q => by
 cases f with
 | next =>
  obtain ⟨σ', H', I', j⟩ := q
  exact ⟨σ', H', I', h2 σ' H' j⟩
 | brk => exact q
 | cont => exact q
 | ret u => exact q
theorem small9 {n : Nat} (h : n <= 1000000) : n < sizeLine := Nat.lt_of_le_of_lt h (by decide)
theorem cutI_in (ns : List Int) {lo hi : Int} (h0 : 0 <= lo) (h1 : lo <= hi) (h2 : hi <= (ns.length : Int)) : pS ns (some lo) (some hi) = (ns.drop lo.toNat).take (hi - lo).toNat := by
 unfold pS
 have e1 : HT.sIx ns.length 0 (some lo) = lo.toNat := by
  show (if lo < 0 then (lo + (ns.length : Int)).toNat else min lo.toNat ns.length) = lo.toNat
  rw [if_neg (by omega)]; omega
 have e2 : HT.sIx ns.length ns.length (some hi) = hi.toNat := by
  show (if hi < 0 then (hi + (ns.length : Int)).toNat else min hi.toNat ns.length) = hi.toNat
  rw [if_neg (by omega)]; omega
 rw [e1, e2]
 congr 1
 omega
end L2
namespace L2
open PySem PySem.Spec PyProof.Rows
theorem DefAt.calX {P : Program} {w : World} {K : PySem.W.Frag} {mg : Str -> Option Value} {base h : Heap} {x : Str} {st : Stmt} {ps : List Str} {k : Nat} {sp : Sp} (D : DefAt K x st) (X : K.In h) (G : h.Ns mainGlobals mg) (hb : BindAt x st ps) (mk : ∀ f fd, Fun K x x st f fd -> FnOk P w K mg base (CXE P w) k f fd ps sp) : CalX P w K mg base k x ps sp := by
 obtain ⟨f, oc, od, osl, kV, doc, pm, an, cdv, ct, a, l, c, kk⟩ := D.ex
 have F := fun_mk (st := st) l c kk
 exact ⟨⟨f, _, mk f _ F, PySem.W.mg_of X G a, kk, F.binds hb⟩⟩
theorem fP {X : Cx} {x : Str} {C : Addr} {pos : Pos} (hg : Gl X x) (hm : X.mg x = some (.ref C)) (hd : (x == ("__debug__" : Str)) = false := by decide) : PE X (.Name x pos) (tC (.ref C)) := pe_glob hg hm rfl hd
structure ClN (mg : Str -> Option Value) (x : Str) (C : Addr) : Prop where
 g : mg x = some (.ref C)
end L2
namespace Mw
open PySem L2
def j9 (nf : Addr) : Sp := fun vs H Q E => ∃ t b : Int, vs = [.int t, .int b] /\ Bits 3000 t /\ Bits 3000 b /\ (b = 0 -> E (.ref nf) none H) /\ (b ≠ 0 -> ∀ p, H p = none -> Q (.ref p) (upd H p (.tup [.int (aL t b), .int (aI t b)])))
end Mw
namespace Mw
open PySem L2
theorem at0 (x y : Int) : atI [V.int x, V.int y] 0 = some (.int x) := rfl
theorem at1 (x y : Int) : atI [V.int x, V.int y] 1 = some (.int y) := rfl
def j8 (t1 b1 t2 b2 : Int) : Int := t1 * b2 + t2 * b1
def nX (t1 _ t2 _ : Int) : Int := t1 * t2
def fR (_ b1 _ b2 : Int) : Int := b1 * b2
def lG (K : PySem.W.Frag) (nf : Addr) (X Y : Int -> Int -> Int -> Int -> Int) : Sp := fun vs H Q E => ∃ (a c : Addr) (t1 b1 t2 b2 : Int), vs = [.ref a, .ref c] /\ SqT K H a [.int t1, .int b1] /\ SqT K H c [.int t2, .int b2] /\ Bits 1000 t1 /\ Bits 1000 b1 /\ Bits 1000 t2 /\ Bits 1000 b2 /\
 (Y t1 b1 t2 b2 = 0 -> E (.ref nf) none H) /\ (Y t1 b1 t2 b2 ≠ 0 -> ∀ p, H p = none -> Q (.ref p) (upd H p (.tup [.int (aL (X t1 b1 t2 b2) (Y t1 b1 t2 b2)), .int (aI (X t1 b1 t2 b2) (Y t1 b1 t2 b2))])))
end Mw
namespace Mw
def dot (xs ys : List Int) : Int := (List.zipWith (· * ·) xs ys).sum
theorem zip_get {xs ys : List Int} {i : Nat} {x y : Int} (h1 : xs[i]? = some x) (h2 : ys[i]? = some y) : (List.zipWith (· * ·) xs ys)[i]? = some (x * y) := by
 rw [List.getElem?_zipWith, h1, h2]
theorem jW : ∀ xs : List Int, 0 <= dot xs xs
 | [] => by unfold dot; simp
 | x :: xs => by
  have ih := jW xs
  have hx : 0 <= x * x := by
   rcases Int.le_total 0 x with h | h
   ·exact Int.mul_nonneg h h
   ·exact Int.mul_nonneg_of_nonpos_of_nonpos h h
  unfold dot at *
  simp only [List.zipWith_cons_cons, List.sum_cons]
  omega
end Mw
namespace Mw
open PySem L2
def mT (ns : List Int) (k : Nat) : Int := ns.getD k 0
theorem at_cell {ns : List Int} {k : Int} (h0 : 0 <= k) (h : k < (ns.length : Int)) : atI (ns.map V.int) k = some (.int (mT ns k.toNat)) := by
 have e : k = (k.toNat : Int) := by omega
 have hk : k.toNat < ns.length := by omega
 rw [e, Int.toNat_natCast]
 refine bW ?_
 rw [List.getElem?_map, List.getElem?_eq_getElem hk]
 unfold mT
 simp [hk]
theorem cell_out {ns : List Int} {k : Int} (h0 : 0 <= k) (h : ¬ k < (ns.length : Int)) : mT ns k.toNat = 0 := by
 unfold mT
 rw [List.getD_eq_getElem?_getD, List.getElem?_eq_none (by omega)]; rfl
def spCell (K : PySem.W.Frag) : Sp := fun vs H Q _ => ∃ (a : Addr) (ns : List Int) (k : Int), vs = [.ref a, .int k] /\ SqL K H a (ns.map V.int) /\ 0 <= k /\ Q (.int (mT ns k.toNat)) H
def RowsAt (K : PySem.W.Frag) (H : Hp) (as : List Addr) (rs : List (List Int × Int)) : Prop := Paired (fun a r => ∃ p, SqT K H a [.ref p, .int r.2] /\ SqT K H p (r.1.map V.int)) as rs
theorem RowsAt.same {K : PySem.W.Frag} {H H' : Hp} {as : List Addr} {rs : List (List Int × Int)} (e : Same H H') (h : RowsAt K H as rs) : RowsAt K H' as rs := Paired.mapP h fun _ _ ⟨p, q1, q2⟩ => ⟨p, e.seqT q1, e.seqT q2⟩
theorem pU {xs : List V} {k : Nat} {z : Int} {v : V} (h : xs[k]? = some v) (hz : z = (k : Int)) : atI xs z = some v := by
 subst hz; exact bW h
theorem k7 {α β : Type} {R : α -> β -> Prop} : ∀ {as as' : List α} {bs bs' : List β}, Paired R as bs -> Paired R as' bs' -> Paired R (as ++ as') (bs ++ bs')
 | _, _, _, _, .nil, h => h
 | _, _, _, _, .cons r t, h => .cons r (k7 t h)
def pR {α : Type} (xs : List α) (lo hi : Option Int) : List α := (xs.drop (HT.sIx xs.length 0 lo)).take (HT.sIx xs.length xs.length hi - HT.sIx xs.length 0 lo)
theorem gZ {α : Type} (g : α -> V) (xs : List α) (lo hi : Option Int) : cP (xs.map g) lo hi = (pR xs lo hi).map g := by
 unfold cP pR
 rw [List.length_map, List.map_take, List.map_drop]
end Mw
namespace L2
open PySem PySem.Spec PyProof.Rows
theorem FnOk.toX {P : Program} {w : World} {K : PySem.W.Frag} {mg : Str -> Option Value} {base : Heap} {CX : CXT} {k : Nat} {f : Addr} {fd : FuncData} {ps : List Str} {sp : Sp} (F : FnOk P w K mg base CX0 k f fd ps sp) : FnOk P w K mg base CX k f fd ps sp :=
 ⟨F.len, fun A outer s H args us vs Q E hr he hb hv hs => codeAny_mono (F.run A outer s H args us vs Q E hr he hb hv hs) fun r s' h => by
  cases r with
  | error e => exact h.elim
  | ok fl => cases fl <;> exact h⟩
def SpOf (C : Addr) (sp : Sp) : Sp := fun vs H Q E => (∃ (a : Addr) (us : List V) (dx : Addr) (fs : List (Str × V)), vs = .ref a :: us /\ H a = some (.ins C dx fs)) /\ sp vs H Q E
structure MCal (P : Program) (w : World) (K : PySem.W.Frag) (mg : Str -> Option Value) (base : Heap) (k : Nat) (Kd : Addr -> Prop) (m : Str) (ps : List Str) (sp : Sp) : Prop where
 ex : ∀ C, Kd C -> Cls K C /\ ∃ f fd, Meth K C m f /\ FnOk P w K mg base (CXE P w) k f fd ps (SpOf C sp) /\ Binds K fd ps []
def tMethG (Kd : Addr -> Prop) (m : Str) (sp : Sp) (G : St -> XK) (ta : TE) (t : TA) : TE := fun σ H Q => ta σ H fun x H1 => ∃ a C dx fs, x = .ref a /\ H1 a = some (.ins C dx fs) /\ Kd C /\ fs.lookup m = none /\
 t σ H1 fun vs H2 => (∃ dx2 fs2, H2 a = some (.ins C dx2 fs2)) /\ sp (x :: vs) H2 Q (G σ)
def mE (C : Addr) (sp : Sp) : Sp := fun vs H Q E => ∃ (x dx : Addr) (us : List V) (H1 : Hp), vs = .ref x :: us /\ H1 x = none /\ H1 dx = none /\ dx ≠ x /\ H = upd (upd H1 dx (.own x)) x (.ins C dx []) /\ sp us H1 (fun v H2 => v = .ref x -> Q .non H2) E
def SpMono (sp : Sp) : Prop := ∀ vs H (Q Q' : VK) E, (∀ v H, Q v H -> Q' v H) -> sp vs H Q E -> sp vs H Q' E
structure NCal (P : Program) (w : World) (K : PySem.W.Frag) (mg : Str -> Option Value) (base : Heap) (k : Nat) (x : Str) (ps : List Str) (sp : Sp) : Prop where
 ex : ∃ C f fd, Mk K C f /\ mg x = some (.ref C) /\ FnOk P w K mg base (CXE P w) k f fd ps (mE C sp) /\ Binds K fd ps []
 mono : SpMono sp
section
variable {X : Cx} {k : Nat} {f C : Addr} {fd : FuncData} {ps : List Str} {sp : Sp} {G : St -> XK} {Kd : Addr -> Prop} {x m : Str} {p pos apos : Pos} {e o : Expr} {es : List Expr} {ta : TE} {t : TA}
theorem kP {pl : Sem Bool} (he : PE X o ta) (c : MCal X.prog X.w X.K X.mg X.base k Kd m ps sp) (hr : Room k X.A) (hx : iU (CXE X.prog X.w) X G) (ha : PA X (e :: es) t)
  (hst : starEach (e :: es) X.env = (false, eval e X.env) :: starEach es X.env := by rfl) (hpl : (backTo pos (starEach es X.env)).any (·.1) = false := by rfl)
  (ht : eval (.Call (.Attribute o m apos) (e :: es) [] pos) X.env = (do
   let ov <- eval o X.env
   standAt apos.atName
   let (f, first) <- holding [ov] (getMethod ov m pl)
   callWith pos f first (backTo pos (starEach (e :: es) X.env)) (backToKw pos (keywordEach [] X.env))) := by rfl) :
  PE X (.Call (.Attribute o m apos) (e :: es) [] pos) (tMethG Kd m sp G ta t) := by
 intro pins s σ H Q I h
 refine PySem.W.methodCall_KW (pl := pl) (thn (he pins s σ H _ I h) fun u s1 ⟨x, H1, I1, rx, a, C, dx, fs, ex, ea, kd, l, q⟩ => ?_) ht
 subst ex
 obtain rfl : u = Value.ref a := rx
 obtain ⟨cl, f, fd, hm, F, hb⟩ := c.ex C kd
 refine oS I1 ea cl hm l ?_
 refine PySem.W.callWith_K (first := [.ref a]) (h₀ := X.base) I.ok.mod.kin hm.kp (thn (ha pos pins s1 σ H1 _ I1 q) fun us s2 ⟨vs, H2, I2, r, ⟨dx2, fs2, h2⟩, q2⟩ => ⟨I2.kIn, ?_⟩) hst hpl
 exact pG (us := .ref a :: us) (vs := .ref a :: vs) (dvs := []) (ds := []) F hr hb .nil hx I2 (.cons rfl r) (by rw [List.append_nil]; exact ⟨⟨a, vs, dx2, fs2, rfl, h2⟩, q2⟩)
theorem jR {pl : Sem Bool} (he : PE X o ta) (c : MCal X.prog X.w X.K X.mg X.base k Kd m ps sp) (hr : Room k X.A) (hx : iU (CXE X.prog X.w) X G)
  (ht : eval (.Call (.Attribute o m apos) [] [] pos) X.env = (do
   let ov <- eval o X.env
   standAt apos.atName
   let (f, first) <- holding [ov] (getMethod ov m pl)
   callWith pos f first (backTo pos (starEach [] X.env)) (backToKw pos (keywordEach [] X.env))) := by rfl) :
  PE X (.Call (.Attribute o m apos) [] [] pos) (tMethG Kd m sp G ta tNil) := by
 intro pins s σ H Q I h
 refine PySem.W.methodCall_KW (pl := pl) (thn (he pins s σ H _ I h) fun u s1 ⟨x, H1, I1, rx, a, C, dx, fs, ex, ea, kd, l, q⟩ => ?_) ht
 subst ex
 obtain rfl : u = Value.ref a := rx
 obtain ⟨cl, f, fd, hm, F, hb⟩ := c.ex C kd
 refine oS I1 ea cl hm l ?_
 exact PySem.W.callWith_K0 (first := [.ref a]) I1.kIn hm.kp (pG (us := [.ref a]) (vs := [.ref a]) (dvs := []) (ds := []) F hr hb .nil hx I1 (.cons rfl .nil) (by obtain ⟨⟨dx2, fs2, h2⟩, q2⟩ := q; exact ⟨⟨a, [], dx2, fs2, rfl, h2⟩, q2⟩))
theorem run_makeG {pins : List (Addr × Obj)} {σ : St} {H : Hp} {s : Shared} {Q : VK} {us : List Value} {vs : List V} (M : Mk X.K C f) (F : FnOk X.prog X.w X.K X.mg X.base (CXE X.prog X.w) k f fd ps (mE C sp)) (mo : SpMono sp) (hr : Room (k + 1) X.A) (hb : Binds X.K fd ps [])
  (hx : iU (CXE X.prog X.w) X G) (I : Inv X pins σ H s) (r : Vals vs us) (h : sp vs H Q (G σ)) : wpAny (model X.prog X.w) X.A (call (.ref C) us) (EP X pins σ Q) X.xe s := by
 have hq : mE C sp (V.ref (s.heap.objs.size + 1) :: vs) (upd (upd H s.heap.objs.size (.own (s.heap.objs.size + 1))) (s.heap.objs.size + 1) (.ins C s.heap.objs.size [])) (fun v H2 => v = .non /\ Q (.ref (s.heap.objs.size + 1)) H2) (G σ) :=
  ⟨s.heap.objs.size + 1, s.heap.objs.size, vs, H, rfl, I.hok.fresh (Nat.le_succ _), I.hok.fresh (Nat.le_refl _), Nat.ne_of_lt (Nat.lt_succ_self _), rfl, mo _ _ _ _ _ (fun v H2 q e => ⟨rfl, by rw [<- e]; exact q⟩) h⟩
 have I2 := Inv.made (C := C) I
 have r2 : Vals (V.ref (s.heap.objs.size + 1) :: vs) (Value.ref (s.heap.objs.size + 1) :: us) := .cons rfl r
 have hl : (Value.ref (s.heap.objs.size + 1) :: us ++ []).length = ps.length := by
  have e := r2.length
  rw [F.len _ _ _ _ hq] at e
  rw [List.append_nil]; exact e.symm
 have hb2 := hb _ (Value.ref (s.heap.objs.size + 1) :: us) I2.kIn hl
 rw [List.append_nil] at hb2
 refine wpAny_call (make_map (f := f) I.kIn M.makes M.init (beq_iff_eq.mp M.fn) (codeAny_mono (F.run _ X.stack _ _ ⟨Value.ref (s.heap.objs.size + 1) :: us, []⟩ (Value.ref (s.heap.objs.size + 1) :: us) _ _ (G σ) (hr.make C us [])
  (I2.env0.make C us []) hb2 r2 hq) fun r s' hq' => ?_))
 cases r with
 | error e => exact hx pins σ _ _ e s' I2 hq'
 | ok fl =>
  cases fl with
  | ret u =>
   obtain ⟨v, H', I3, rv, ev, q3⟩ := I2.after hq'
   subst ev
   exact ⟨rv, ⟨V.ref (s.heap.objs.size + 1), H', I3, rfl, q3⟩⟩
  | next => exact False.elim hq'
  | brk => exact False.elim hq'
  | cont => exact False.elim hq'
theorem pe_newG (c : NCal X.prog X.w X.K X.mg X.base k x ps sp) (hr : Room (k + 1) X.A) (hg : Gl X x) (hx : iU (CXE X.prog X.w) X G)
  (ha : PA X (e :: es) t) (hdb : (x == ("__debug__" : Str)) = false := by decide) (he : starEach (e :: es) X.env = (false, eval e X.env) :: starEach es X.env := by rfl) (hpl : (backTo pos (starEach es X.env)).any (·.1) = false := by rfl) :
  PE X (.Call (.Name x p) (e :: es) [] pos) (tCallG sp [] G t) := by
 obtain ⟨⟨C, f, fd, M, hm, F, hb⟩, mo⟩ := c
 intro pins s σ H Q I h
 refine wpAny_Call_Name_kw (iZ I hg hm ?_ hdb)
 refine PySem.W.callWith_K (h₀ := X.base) I.ok.mod.kin M.kp (thn (ha pos pins s σ H _ I h) fun us s1 ⟨vs, H1, I1, r, q⟩ => ⟨I1.kIn, ?_⟩) he hpl
 exact run_makeG M F mo hr hb hx I1 r (by have q2 : sp (vs ++ []) H1 Q (G σ) := q; rw [List.append_nil] at q2; exact q2)
end
structure ClsAt (K : PySem.W.Frag) (mg : Str -> Option Value) (x : Str) (C : Addr) : Prop where
 cl : Cls K C
 makes : PySem.W.makesIn K C = true
 kp : PySem.W.keepIn K (.ref C) = true
 g : mg x = some (.ref C)
structure MethAt (K : PySem.W.Frag) (C : Addr) (m qual : Str) (st : Stmt) : Prop where
 ex : ∃ f fd, Meth K C m f /\ Fun K m qual st f fd
structure ExR (K : PySem.W.Frag) (mg : Str -> Option Value) (x : Str) (C : Addr) : Prop where
 c : ExcC K C
 g : mg x = some (.ref C)
def BindQ (x qual : Str) (st : Stmt) (ps : List Str) : Prop := ∀ (kV doc pm : Value) (an : Option Addr) (cdv ct : Value) (us : List Value), us.length = ps.length -> bindArgs (PySem.W.fnOf x qual (gO st) (eQ st) (aG st) .none kV doc pm an cdv ct) ⟨us, []⟩ = pure (ps.zip us)
section
variable {P : Program} {w : World} {K : PySem.W.Frag} {mg : Str -> Option Value} {base : Heap} {C : Addr} {x m qual : Str} {st : Stmt} {ps : List Str} {k : Nat} {sp : Sp}
theorem MethAt.use (h : MethAt K C m qual st) (c : Cls K C) (hb : BindQ m qual st ps) (ok : ∀ f fd, Fun K m qual st f fd -> FnOk P w K mg base (CXE P w) k f fd ps (SpOf C sp)) : Cls K C /\ ∃ f fd, Meth K C m f /\ FnOk P w K mg base (CXE P w) k f fd ps (SpOf C sp) /\ Binds K fd ps [] := by
 obtain ⟨f, fd, M, F⟩ := h.ex
 exact ⟨c, f, fd, M, ok f fd F, F.binds hb⟩
theorem ClsAt.new (c : ClsAt K mg x C) (h : MethAt K C "__init__" qual st) (hb : BindQ "__init__" qual st ps) (mo : SpMono sp) (ok : ∀ f fd, Fun K "__init__" qual st f fd -> FnOk P w K mg base (CXE P w) k f fd ps (mE C sp)) : NCal P w K mg base k x ps sp := by
 obtain ⟨f, fd, M, F⟩ := h.ex
 exact ⟨⟨C, f, fd, ⟨c.makes, M.at_, M.fn, c.kp⟩, c.g, ok f fd F, F.binds hb⟩, mo⟩
end
end L2
namespace L2
open PySem PySem.Spec PyProof.Rows
class LamPos where
 l : Nat
 c : Nat
end L2
namespace Mw
open PySem L2
def PtsAt (K : PySem.W.Frag) (H : Hp) (as : List Addr) (ps : List (List Int)) : Prop := Paired (fun a p => SqT K H a (p.map V.int)) as ps
theorem PtsAt.same {K : PySem.W.Frag} {H H' : Hp} {as : List Addr} {ps : List (List Int)} (e : Same H H') (h : PtsAt K H as ps) : PtsAt K H' as ps := Paired.mapP h fun _ _ q => e.seqT q
theorem at_mem {ds : List Int} {z : Int} (h0 : 0 <= z) (h1 : z < (ds.length : Int)) : ∃ d, d ∈ ds /\ atI (ds.map V.int) z = some (.int d) := at_list (k := z.toNat) (by omega) (by omega)
end Mw
namespace Mw
open PySem L2
variable [LamPos]
theorem oP {c A B : Prop} [Decidable c] (h1 : ¬ c -> A) (h2 : c -> B) : if (!decide c) = true then A else B := by
 by_cases h : c
 ·rw [decide_eq_true h]; exact h2 h
 ·rw [decide_eq_false h]; exact h1 h
end Mw
namespace Mw
open PySem L2
variable [LamPos]
theorem iteB {b : Bool} {A B : Prop} (h1 : b = true -> A) (h2 : b = false -> B) : if b = true then A else B := by
 cases b
 ·rw [if_neg (by simp)]; exact h2 rfl
 ·rw [if_pos rfl]; exact h1 rfl
theorem zipWith_get {α β γ : Type} {f : α -> β -> γ} {xs : List α} {ys : List β} {i : Nat} {x : α} {y : β} (h1 : xs[i]? = some x) (h2 : ys[i]? = some y) : (List.zipWith f xs ys)[i]? = some (f x y) := by
 rw [List.getElem?_zipWith, h1, h2]
end Mw
namespace Mw
open PySem L2
variable [LamPos]
theorem kO {f : Str} {y : V} : ∀ {fs : List (Str × V)} {v : V}, fs.lookup f = some v -> (bI f y fs).length = fs.length
 | [], v, h => by simp at h
 | (g, x) :: r, v, h => by
  unfold bI
  by_cases e : g = f
  ·rw [if_pos e]; rfl
  ·rw [if_neg e, List.length_cons, List.length_cons]
   have e2 : (f == g) = false := by
    cases z : (f == g)
    ·rfl
    ·exact absurd (beq_iff_eq.mp z).symm e
   simp only [List.lookup, e2] at h
   rw [kO h]
end Mw
namespace L2
open PySem PySem.Spec PyProof.Rows
def OffD (D : Addr) (H H' : Hp) : Prop := ∀ b o, b ≠ D -> H b = some o -> H' b = some o
theorem OffD.of {D : Addr} {H H' : Hp} (s : Same H H') : OffD D H H' := fun b o _ h => s b o h
theorem OffD.upd {D : Addr} {H : Hp} {o : HO} : OffD D H (upd H D o) := fun b u n h => by rw [aQ n]; exact h
section
variable {K : PySem.W.Frag} {fr : List (Option Nat)} {g : TG} {te : TE} {D : Addr} {σ : St} {H1 : Hp} {Q : VK}
theorem nA {ys : List V} {z : V} {P : Nat -> V -> Prop} (h : ∀ (j : Nat) y, ys[j]? = some y -> P j y) (hz : P ys.length z) : ∀ (j : Nat) y, (ys ++ [z])[j]? = some y -> P j y := fun j y e => by
 by_cases hj : j < ys.length
 ·rw [List.getElem?_append_left hj] at e; exact h j y e
 ·have h2 : j = ys.length := by
   have := (List.getElem?_eq_some_iff.mp e).1
   rw [List.length_append] at this
   simp at this
   omega
  subst h2
  rw [List.getElem?_append_right (Nat.le_refl _), Nat.sub_self] at e
  have : z = y := by simpa using e
  rw [<- this]; exact hz
theorem aZ {a : Addr} {xs : List V} (Rl : Hp -> Nat -> V -> Prop) (mono : ∀ H H' i y, OffD D H H' -> Rl H i y -> Rl H' i y) (hq : SqL K H1 a xs) (hn : xs.length <= sizeLine) (hD : H1 D = none)
  (hs : ∀ (i : Nat) x H (R : VK), xs[i]? = some x -> Same H1 H -> H D ≠ none -> (∀ y H', Same H H' -> Rl H' i y -> R y H') -> g x (aX fr σ) H fun σ2 H2 => Wk (aX fr σ) σ2 /\ te σ2 H2 R)
  (q : ∀ ys H', Same H1 H' -> H' D = some (.lst ys) -> ys.length = xs.length -> (∀ (j : Nat) y, ys[j]? = some y -> Rl H' j y) -> Q (.ref D) H') : eJ fr g tYes te D (Itl K a) σ H1 Q := by
 refine comp_list (xs := xs) (fun i ys H => Same H1 H /\ H D = some (.lst ys) /\ ys.length = i /\ ∀ (j : Nat) y, ys[j]? = some y -> Rl H j y) ⟨Same.new hD _, aC, rfl, fun j y e => by simp at e⟩
  (fun i ys H hi ⟨_, e, p, _⟩ => ⟨e, by omega⟩) (fun i ys H hi ⟨e, _, _⟩ => e.seq hq) hn ?_ (fun ys H ⟨e1, e2, e3, e4⟩ => q ys H e1 e2 e3 e4)
 rintro i x ys H hx ⟨e1, e2, e3, e4⟩
 refine hs i x H _ hx e1 (by rw [e2]; simp) (fun y H' s r => ⟨s _ _ e2, (e1.trans s).upd_old hD, aC, by rw [List.length_append, e3]; rfl, ?_⟩)
 exact nA (fun j u e => mono _ _ _ _ OffD.upd (mono _ _ _ _ (OffD.of s) (e4 j u e))) (by rw [e3]; exact mono _ _ _ _ OffD.upd r)
theorem jJ {a : Addr} {xs : List V} (Rl : Hp -> Nat -> V -> Prop) (mono : ∀ H H' i y, OffD D H H' -> Rl H i y -> Rl H' i y) (hq : SqT K H1 a xs) (hn : xs.length <= sizeLine) (hD : H1 D = none)
  (hs : ∀ (i : Nat) x H (R : VK), xs[i]? = some x -> Same H1 H -> H D ≠ none -> (∀ y H', Same H H' -> Rl H' i y -> R y H') -> g x (aX fr σ) H fun σ2 H2 => Wk (aX fr σ) σ2 /\ te σ2 H2 R)
  (q : ∀ ys H', Same H1 H' -> H' D = some (.lst ys) -> ys.length = xs.length -> (∀ (j : Nat) y, ys[j]? = some y -> Rl H' j y) -> Q (.ref D) H') : eJ fr g tYes te D (Itt K a) σ H1 Q := by
 refine comp_tup (xs := xs) (fun i ys H => Same H1 H /\ H D = some (.lst ys) /\ ys.length = i /\ ∀ (j : Nat) y, ys[j]? = some y -> Rl H j y) ⟨Same.new hD _, aC, rfl, fun j y e => by simp at e⟩
  (fun i ys H hi ⟨_, e, p, _⟩ => ⟨e, by omega⟩) (fun i ys H hi ⟨e, _, _⟩ => e.seqT hq) hn ?_ (fun ys H ⟨e1, e2, e3, e4⟩ => q ys H e1 e2 e3 e4)
 rintro i x ys H hx ⟨e1, e2, e3, e4⟩
 refine hs i x H _ hx e1 (by rw [e2]; simp) (fun y H' s r => ⟨s _ _ e2, (e1.trans s).upd_old hD, aC, by rw [List.length_append, e3]; rfl, ?_⟩)
 exact nA (fun j u e => mono _ _ _ _ OffD.upd (mono _ _ _ _ (OffD.of s) (e4 j u e))) (by rw [e3]; exact mono _ _ _ _ OffD.upd r)
theorem jI {b1 b2 : Bool} {a1 a2 : Addr} {us vs : List V} (Rl : Hp -> Nat -> V -> Prop) (mono : ∀ H H' i y, OffD D H H' -> Rl H i y -> Rl H' i y) (h1 : SqB K b1 H1 a1 us) (h2 : SqB K b2 H1 a2 vs) (hn : us.length <= sizeLine) (hD : H1 D = none)
  (hs : ∀ (i : Nat) x y T H (R : VK), us[i]? = some x -> vs[i]? = some y -> Same H1 H -> H D ≠ none -> H T = none -> (∀ z H', Same (upd H T (.tup [x, y])) H' -> Rl H' i z -> R z H') -> g (.ref T) (aX fr σ) (upd H T (.tup [x, y])) fun σ2 H2 => Wk (aX fr σ) σ2 /\ te σ2 H2 R)
  (q : ∀ ys H', Same H1 H' -> H' D = some (.lst ys) -> ys.length = min us.length vs.length -> (∀ (j : Nat) y, ys[j]? = some y -> Rl H' j y) -> Q (.ref D) H') : eJ fr g tYes te D (Itz K b1 b2 a1 a2) σ H1 Q := by
 refine nR (us := us) (vs := vs) (fun i ys H => Same H1 H /\ H D = some (.lst ys) /\ ys.length = i /\ ∀ (j : Nat) y, ys[j]? = some y -> Rl H j y) ⟨Same.new hD _, aC, rfl, fun j y e => by simp at e⟩
  (fun i ys H hi ⟨_, e, p, _⟩ => ⟨e, by omega⟩) (fun i ys H hi ⟨e, _, _⟩ => ⟨e.seqB h1, e.seqB h2⟩) hn ?_ (fun ys H ⟨e1, e2, e3, e4⟩ => q ys H e1 e2 e3 e4)
 rintro i x y T ys H hx hy hT ⟨e1, e2, e3, e4⟩
 refine hs i x y T H _ hx hy e1 (by rw [e2]; simp) hT (fun z H' s r => ⟨s _ _ (by rw [aQ (bH e2 hT)]; exact e2), ((e1.trans (Same.new hT _)).trans s).upd_old hD, aC, by rw [List.length_append, e3]; rfl, ?_⟩)
 exact nA (fun j u e => mono _ _ _ _ OffD.upd (mono _ _ _ _ (OffD.of ((Same.new hT _).trans s)) (e4 j u e))) (by rw [e3]; exact mono _ _ _ _ OffD.upd r)
end
theorem dG {α : Type} {g : α -> V} {rs : List α} {ys : List V} (hl : ys.length = rs.length) (h : ∀ (j : Nat) y r, ys[j]? = some y -> rs[j]? = some r -> y = g r) : ys = rs.map g := by
 refine List.ext_getElem? fun j => ?_
 rw [List.getElem?_map]
 by_cases hj : j < ys.length
 ·rw [List.getElem?_eq_getElem hj, List.getElem?_eq_getElem (by omega)]
  exact congrArg some (h j _ _ (List.getElem?_eq_getElem hj) (List.getElem?_eq_getElem (by omega)))
 ·rw [List.getElem?_eq_none (by omega), List.getElem?_eq_none (by omega)]; rfl
theorem wk1 {σ : St} {v : V} {n : Nat} {w : V} (h : σ[n]? = some (some w)) : Wk (aX [none, some n] σ) [some v, some w] := by
 refine ⟨rfl, fun k u e => ?_⟩
 have e0 : aX [none, some n] σ = [none, some w] := by simp [aX, h]
 rw [e0] at e
 match k, e with
 | 0, e => simp at e
 | 1, e => exact e
 | k + 2, e => simp at e
section
variable {X : Cx}
theorem call_maxL (hc : X.calm = true) : dX X (.builtin "max") (fun xs H Q => ∃ (a : Addr) (ns : List Int), xs = [.ref a] /\ SqL X.K H a (ns.map V.int) /\ 0 < ns.length /\ ∀ m, m ∈ ns -> (∀ b ∈ ns, b <= m) -> Q (.int m) H) := by
 intro pins s σ H xs us Q I r h
 obtain ⟨a, ns, rfl, hs, hn, q⟩ := h
 obtain ⟨u, rfl, r1⟩ := fS r
 obtain rfl : u = Value.ref a := r1
 obtain ⟨its, rv, p, hz⟩ := I.list hs
 obtain ⟨zs, e⟩ := (eE rv).allInts.items
 have hns : ns = zs.toList.map (·.1) := by rw [<- (eE rv).numsOf, <- nums_intItems, <- e]
 have hsz : 0 < zs.size := by have h3 := hn; rw [hns, List.length_map, Array.length_toList] at h3; exact h3
 have hl := p.isList
 rw [e] at hl
 refine max_intList (I.ok.hd hc) hl hsz fun v h' tk hv hk => ?_
 obtain ⟨t, rfl⟩ := intItems_at hv
 obtain ⟨h1, h2⟩ := argBest_gt (numAt zs) (zs.size - 1)
 have e3 : ∀ k, k < zs.size -> numAt zs k ∈ ns := fun k hk => by
  rw [hns]
  refine List.mem_map.mpr ⟨zs[k], by simp, ?_⟩
  simp [numAt, hk]
 have e4 : ∀ b ∈ ns, ∃ k, k < zs.size /\ numAt zs k = b := fun b hb => by
  rw [hns] at hb
  obtain ⟨y, hy, rfl⟩ := List.mem_map.mp hb
  obtain ⟨k, hk, hk2⟩ := List.getElem_of_mem hy
  have hk' : k < zs.size := by simpa using hk
  refine ⟨k, hk', ?_⟩
  simp [numAt, hk', <- hk2]
 refine ⟨.int (numAt zs (argBest (fun i j => decide (numAt zs i > numAt zs j)) (zs.size - 1))), H, I.kept hk, ⟨_, rfl⟩, q _ (e3 _ (by omega)) fun b hb => ?_⟩
 obtain ⟨k, hk1, rfl⟩ := e4 b hb
 exact h2 k (by omega)
end
section
variable {X : Cx} {K : PySem.W.Frag} {tg l : Expr} {tl ta : TE} {e : Expr} {f : Str} {pos : Pos}
theorem pe_fldK (hK : X.K = K) (he : PE X e ta) (hb : attributeBase e f X.env (eval e X.env) = eval e X.env) : PE X (.Attribute e f pos) (tFld K ta f) := by subst hK; exact cS he hb
theorem call_sumK (hK : X.K = K) (hc : X.calm = true) : dX X (.builtin "sum") (fun xs H Q => ∃ (a : Addr) (ns : List Int), xs = [.ref a] /\ SqL K H a (ns.map V.int) /\ Q (.int ns.sum) H) := by subst hK; exact mB hc
end
end L2
namespace Mw
open PySem L2
variable [LamPos]
theorem cutI_to (ns : List Int) {hi : Int} (h0 : 0 <= hi) (h1 : hi <= (ns.length : Int)) : pS ns none (some hi) = ns.take hi.toNat := by
 unfold pS
 have e1 : HT.sIx ns.length ns.length (some hi) = hi.toNat := by
  show (if hi < 0 then (hi + (ns.length : Int)).toNat else min hi.toNat ns.length) = hi.toNat
  rw [if_neg (by omega)]; omega
 rw [e1]
 show (ns.drop 0).take (hi.toNat - 0) = _
 rw [List.drop_zero, Nat.sub_zero]
end Mw
namespace L2
open PySem PySem.Spec PyProof.Rows
section
variable {K : PySem.W.Frag} {fr : List (Option Nat)} {g : TG} {tc : TT} {te : TE} {D : Addr} {σ : St} {H1 : Hp} {Q : VK}
theorem comp_enum {a : Addr} {xs : List V} (Pv : Nat -> List V -> Hp -> Prop) (h0 : Pv 0 [] (upd H1 D (.lst [])))
  (hD : ∀ i ys H, i <= xs.length -> Pv i ys H -> H D = some (.lst ys) /\ ys.length <= i) (hl : ∀ i ys H, i <= xs.length -> Pv i ys H -> SqL K H a xs) (hn : xs.length <= sizeLine)
  (hs : ∀ (i : Nat) x T ys H, xs[i]? = some x -> H T = none -> Pv i ys H -> g (.ref T) (aX fr σ) (upd H T (.tup [.int (i : Nat), x])) fun σ2 H2 => Wk (aX fr σ) σ2 /\ tc σ2 H2 fun b H3 => if b = true then te σ2 H3 fun y H4 => H4 D = some (.lst ys) /\ Pv (i + 1) (ys ++ [y]) (upd H4 D (.lst (ys ++ [y]))) else Pv (i + 1) ys H3)
  (hd : ∀ ys H, Pv xs.length ys H -> Q (.ref D) H) : eJ fr g tc te D (Ite K a) σ H1 Q := by
 refine kT (n := xs.length) Pv h0 hD (fun i ys H hi p => ?_) (fun ys H p => ?_) hn (fun i ys H x H' hi p y => ?_) hd
 ·have q := hl i ys H (Nat.le_of_lt hi) p
  exact ⟨xs, xs[i], q, by simp [hi]⟩
 ·exact ⟨xs, hl _ ys H (Nat.le_refl _) p, Nat.le_refl _⟩
 ·obtain ⟨T, v, e1, e2, e3, y⟩ := y
  subst e1 e3
  exact hs i v T ys _ (y xs (hl i ys _ (Nat.le_of_lt hi) p)) e2 p
def cK (p : Nat -> Bool) (f : Nat -> V) (i : Nat) : List V := ((List.range i).filter p).map f
theorem eP (p : Nat -> Bool) (f : Nat -> V) (i : Nat) : cK p f (i + 1) = if p i = true then cK p f i ++ [f i] else cK p f i := by
 unfold cK
 rw [List.range_succ, List.filter_append, List.map_append]
 by_cases h : p i = true
 ·rw [if_pos h]; simp [h]
 ·rw [if_neg h]; simp [h]
theorem oH (p : Nat -> Bool) (f : Nat -> V) (i : Nat) : (cK p f i).length <= i := by
 unfold cK
 rw [List.length_map]
 exact Nat.le_trans (List.length_filter_le _ _) (by rw [List.length_range]; exact Nat.le_refl _)
theorem dP {a : Addr} {xs : List V} (p : Nat -> Bool) (f : Nat -> V) (hq : SqL K H1 a xs) (hn : xs.length <= sizeLine) (hD : H1 D = none)
  (hs : ∀ (i : Nat) x H (R : VK) (R' : Hp -> Prop), xs[i]? = some x -> Same H1 H -> (p i = true -> ∀ H', Same H H' -> R (f i) H') -> (p i = false -> ∀ H', Same H H' -> R' H') -> g x (aX fr σ) H fun σ2 H2 => Wk (aX fr σ) σ2 /\ tc σ2 H2 fun b H3 => if b = true then te σ2 H3 R else R' H3)
  (q : ∀ H', Same H1 H' -> H' D = some (.lst (cK p f xs.length)) -> Q (.ref D) H') : eJ fr g tc te D (Itl K a) σ H1 Q := by
 refine comp_list (xs := xs) (fun i ys H => Same H1 H /\ H D = some (.lst ys) /\ ys = cK p f i) ⟨Same.new hD _, aC, rfl⟩
  (fun i ys H hi ⟨_, e, z⟩ => ⟨e, by rw [z]; exact oH p f i⟩) (fun i ys H hi ⟨e, _, _⟩ => e.seq hq) hn ?_ (fun ys H ⟨e1, e2, e3⟩ => q H e1 (by rw [<- e3]; exact e2))
 rintro i x ys H hi ⟨e1, e2, e3⟩
 refine hs i x H _ _ hi e1 (fun hp H' s => ⟨s _ _ e2, (e1.trans s).upd_old hD, aC, ?_⟩) (fun hp H' s => ⟨e1.trans s, s _ _ e2, ?_⟩)
 ·rw [eP, if_pos hp, e3]
 ·rw [eP, if_neg (by rw [hp]; simp), e3]
theorem jK {a : Addr} {xs : List V} (p : Nat -> Bool) (f : Nat -> V) (hq : SqL K H1 a xs) (hn : xs.length <= sizeLine) (hD : H1 D = none)
  (hs : ∀ (i : Nat) x T H (R : VK) (R' : Hp -> Prop), xs[i]? = some x -> Same H1 H -> H T = none -> (p i = true -> ∀ H', Same (upd H T (.tup [.int (i : Nat), x])) H' -> R (f i) H') -> (p i = false -> ∀ H', Same (upd H T (.tup [.int (i : Nat), x])) H' -> R' H') ->
   g (.ref T) (aX fr σ) (upd H T (.tup [.int (i : Nat), x])) fun σ2 H2 => Wk (aX fr σ) σ2 /\ tc σ2 H2 fun b H3 => if b = true then te σ2 H3 R else R' H3)
  (q : ∀ H', Same H1 H' -> H' D = some (.lst (cK p f xs.length)) -> Q (.ref D) H') : eJ fr g tc te D (Ite K a) σ H1 Q := by
 refine comp_enum (xs := xs) (fun i ys H => Same H1 H /\ H D = some (.lst ys) /\ ys = cK p f i) ⟨Same.new hD _, aC, rfl⟩
  (fun i ys H hi ⟨_, e, z⟩ => ⟨e, by rw [z]; exact oH p f i⟩) (fun i ys H hi ⟨e, _, _⟩ => e.seq hq) hn ?_ (fun ys H ⟨e1, e2, e3⟩ => q H e1 (by rw [<- e3]; exact e2))
 rintro i x T ys H hi hT ⟨e1, e2, e3⟩
 have s0 := Same.new hT (.tup [.int (i : Nat), x])
 refine hs i x T H _ _ hi e1 hT (fun hp H' s => ⟨(s0.trans s) _ _ e2, (e1.trans (s0.trans s)).upd_old hD, aC, ?_⟩) (fun hp H' s => ⟨e1.trans (s0.trans s), (s0.trans s) _ _ e2, ?_⟩)
 ·rw [eP, if_pos hp, e3]
 ·rw [eP, if_neg (by rw [hp]; simp), e3]
theorem picked_ints (p : Nat -> Bool) (f : Nat -> Int) (i : Nat) : cK p (fun j => V.int (f j)) i = (((List.range i).filter p).map f).map V.int := by
 unfold cK; rw [List.map_map]; rfl
end
end L2
namespace L2
open PySem PySem.Spec PyProof.Rows
def Deep (K : PySem.W.Frag) (H : Hp) : Nat -> V -> V -> Prop
 | 0, x, y => x = y /\ jA x = true
 | n + 1, x, y => (x = y /\ jA x = true) \/ ∃ a b xs ys, x = .ref a /\ y = .ref b /\ ((SqL K H a xs /\ SqL K H b ys) \/ (SqT K H a xs /\ SqT K H b ys)) /\ Paired (Deep K H n) xs ys
theorem Deep.same {K : PySem.W.Frag} {H : Hp} {n : Nat} {x : V} (h : jA x = true) : Deep K H n x x := by
 cases n with
 | zero => exact ⟨rfl, h⟩
 | succ n => exact .inl ⟨rfl, h⟩
theorem Deep.all {K : PySem.W.Frag} {H : Hp} {n : Nat} : ∀ {xs : List V}, xs.all jA = true -> Paired (Deep K H n) xs xs
 | [], _ => .nil
 | x :: xs, h => by
  rw [List.all_cons, Bool.and_eq_true] at h
  exact .cons (Deep.same h.1) (Deep.all h.2)
theorem all_true (k : Nat) : ((List.range k).all fun _ => true) = true := by simp
theorem Room.units8 {k : Nat} {A : Around} (r : Room k A) : A.units + 8 < cLine := by have := r.units; omega
section
variable {X : Cx} {K : PySem.W.Frag} {pins : List (Addr × Obj)} {σ : St} {H : Hp} {s : Shared}
theorem gP {n : Nat} {A : Around} {xs ys : List V} {its jts : List Value} (ih : ∀ {x y : V} {u v : Value}, Deep K H n x y -> RelV x u -> RelV y v -> SeqAt.EqAt A s u v true) (p : Paired (Deep K H n) xs ys) (r1 : Vals xs its) (r2 : Vals ys jts) :
  its.length = jts.length /\ ∀ j (h1 : j < its.toArray.size) (h2 : j < jts.toArray.size), SeqAt.EqAt A s its.toArray[j] jts.toArray[j] true := by
 have l1 := r1.length
 have l2 := r2.length
 have l3 := Paired.length p
 refine ⟨by omega, fun j h1 h2 => ?_⟩
 have g1 : j < its.length := by simpa using h1
 have g2 : j < jts.length := by simpa using h2
 obtain ⟨y, hy, d⟩ := Mw.paired_get p (i := j) (a := xs[j]'(by omega)) (List.getElem?_eq_getElem (by omega))
 have ey : y = ys[j]'(by omega) := by
  rw [List.getElem?_eq_getElem (by omega)] at hy
  exact (Option.some.inj hy).symm
 subst ey
 exact ih d (iW r1 (by omega) g1) (iW r2 (by omega) g2)
theorem jX (hK : X.K = K) (I : Inv X pins σ H s) : ∀ (n : Nat) {A : Around} {x y : V} {u v : Value}, A.units + n < cLine -> Deep K H n x y -> RelV x u -> RelV y v -> SeqAt.EqAt A s u v true := by
 subst hK
 have flat : ∀ {A : Around} {x y : V} {u v : Value}, (x = y /\ jA x = true) -> RelV x u -> RelV y v -> SeqAt.EqAt A s u v true := by
  intro A x y u v h r1 r2
  obtain ⟨rfl, hp⟩ := h
  exact eqAt_rel r1 r2 (fun z e => by rw [e] at hp; cases hp) (fun z e => by rw [e] at hp; cases hp)
 intro n
 induction n with
 | zero => intro A x y u v _ h r1 r2; exact flat h r1 r2
 | succ n ih =>
  intro A x y u v hu h r1 r2
  rcases h with h | ⟨a, b, xs, ys, rfl, rfl, hq, p⟩
  ·exact flat h r1 r2
  ·cases r1
   cases r2
   by_cases hab : a = b
   ·subst hab; exact SeqAt.EqAt.same _
   ·refine SeqAt.EqAt.of_refs hab ?_
    rcases hq with ⟨ha, hb⟩ | ⟨ha, hb⟩
    ·obtain ⟨its, r1, p1, _⟩ := I.list ha
     obtain ⟨jts, r2, p2, _⟩ := I.list hb
     obtain ⟨hl, he⟩ := gP (A := A.in1) (fun d q1 q2 => ih (by show A.units + 1 + n < cLine; omega) d q1 q2) p r1 r2
     have z := SeqAt.RcAt.lists (e := fun _ => true) p1.isList p2.isList (by simpa using hl) (by omega) he
     rw [all_true] at z
     exact z
    ·obtain ⟨its, r1, p1, _⟩ := I.tuple ha
     obtain ⟨jts, r2, p2, _⟩ := I.tuple hb
     obtain ⟨hl, he⟩ := gP (A := A.in1) (fun d q1 q2 => ih (by show A.units + 1 + n < cLine; omega) d q1 q2) p r1 r2
     have z := SeqAt.RcAt.tuples (e := fun _ => true) p1 p2 (by omega) he
     rw [all_true, Bool.true_and, List.size_toArray, List.size_toArray, hl, beq_self_eq_true] at z
     exact z
theorem op_eqDeep (n : Nat) (hK : X.K = K) (hu : X.A.units + 8 < cLine) (hn : n <= 7) : OpR X (compareOp .Eq) (fun x y H Q => (∃ a b xs ys, x = .ref a /\ y = .ref b /\ ((SqL K H a xs /\ SqL K H b ys) \/ (SqT K H a xs /\ SqT K H b ys)) /\ Paired (Deep K H n) xs ys) /\ Q (.bl true) H) := by
 subst hK
 intro pins s σ H x y v u Q I rx ry h
 obtain ⟨⟨a, b, xs, ys, rfl, rfl, hq, p⟩, q⟩ := h
 cases rx
 cases ry
 rcases hq with ⟨ha, hb⟩ | ⟨ha, hb⟩
 ·obtain ⟨its, r1, p1, _⟩ := I.list ha
  obtain ⟨jts, r2, p2, _⟩ := I.list hb
  obtain ⟨hl, he⟩ := gP (A := X.A.in1) (fun d q1 q2 => jX rfl I n (by show X.A.units + 1 + n < cLine; omega) d q1 q2) p r1 r2
  refine SeqAt.RcAt.lists (e := fun _ => true) p1.isList p2.isList (by simpa using hl) (by omega) he _ _ _ _ ?_
  have e : ((List.range its.toArray.size).all fun _ => true) = true := by simp
  rw [e]
  exact ⟨.bl true, H, I, rfl, q⟩
 ·obtain ⟨its, r1, p1, _⟩ := I.tuple ha
  obtain ⟨jts, r2, p2, _⟩ := I.tuple hb
  obtain ⟨hl, he⟩ := gP (A := X.A.in1) (fun d q1 q2 => jX rfl I n (by show X.A.units + 1 + n < cLine; omega) d q1 q2) p r1 r2
  refine SeqAt.RcAt.tuples (e := fun _ => true) p1 p2 (by omega) he _ _ _ _ ?_
  have e : ((List.range (min its.toArray.size jts.toArray.size)).all (fun _ => true) && its.toArray.size == jts.toArray.size) = true := by simp [hl]
  rw [e]
  exact ⟨.bl true, H, I, rfl, q⟩
theorem jT (n : Nat) (hK : X.K = K) (hu : X.A.units + 8 < cLine) (hn : n <= 7) : OpR X (compareOp .NotEq) (fun x y H Q => (∃ a b xs ys, x = .ref a /\ y = .ref b /\ ((SqL K H a xs /\ SqL K H b ys) \/ (SqT K H a xs /\ SqT K H b ys)) /\ Paired (Deep K H n) xs ys) /\ Q (.bl false) H) := by
 subst hK
 intro pins s σ H x y v u Q I rx ry h
 obtain ⟨⟨a, b, xs, ys, rfl, rfl, hq, p⟩, q⟩ := h
 cases rx
 cases ry
 rcases hq with ⟨ha, hb⟩ | ⟨ha, hb⟩
 ·obtain ⟨its, r1, p1, _⟩ := I.list ha
  obtain ⟨jts, r2, p2, _⟩ := I.list hb
  obtain ⟨hl, he⟩ := gP (A := X.A.in1) (fun d q1 q2 => jX rfl I n (by show X.A.units + 1 + n < cLine; omega) d q1 q2) p r1 r2
  refine SeqAt.RcNeAt.lists (e := fun _ => true) p1.isList p2.isList (by simpa using hl) (by omega) he _ _ _ _ ?_
  have e : (!(List.range its.toArray.size).all fun _ => true) = false := by simp
  rw [e]
  exact ⟨.bl false, H, I, rfl, q⟩
 ·obtain ⟨its, r1, p1, _⟩ := I.tuple ha
  obtain ⟨jts, r2, p2, _⟩ := I.tuple hb
  obtain ⟨hl, he⟩ := gP (A := X.A.in1) (fun d q1 q2 => jX rfl I n (by show X.A.units + 1 + n < cLine; omega) d q1 q2) p r1 r2
  refine SeqAt.RcNeAt.tuples (e := fun _ => true) p1 p2 (by omega) he _ _ _ _ ?_
  have e : (!((List.range (min its.toArray.size jts.toArray.size)).all (fun _ => true) && its.toArray.size == jts.toArray.size)) = false := by simp [hl]
  rw [e]
  exact ⟨.bl false, H, I, rfl, q⟩
end
end L2
namespace Mw
def mv (c : Int) (ws xs : List Int) : List Int := List.zipWith (fun w x => w + c * x) ws xs
theorem nP (a b : Int) (as bs : List Int) : dot (a :: as) (b :: bs) = a * b + dot as bs := by unfold dot; rw [List.zipWith_cons_cons, List.sum_cons]
theorem mv_cons (c w x : Int) (ws xs : List Int) : mv c (w :: ws) (x :: xs) = (w + c * x) :: mv c ws xs := by unfold mv; rw [List.zipWith_cons_cons]
end Mw
namespace Mw
open PySem L2
variable [LamPos]
theorem mM {P : Nat -> Addr -> Prop} : ∀ {ys : List V}, (∀ (j : Nat) y, ys[j]? = some y -> ∃ b, y = .ref b /\ P j b) -> ∃ bs : List Addr, ys = bs.map V.ref /\ ∀ (j : Nat) b, bs[j]? = some b -> P j b := by
  intro ys
  induction ys generalizing P with
  | nil => intro _; exact ⟨[], rfl, fun j b e => by simp at e⟩
  | cons y ys ih =>
    intro h
    obtain ⟨b, e, hb⟩ := h 0 y rfl
    obtain ⟨bs, e2, h2⟩ := ih (P := fun j b => P (j + 1) b) fun j y hy => h (j + 1) y (by simpa using hy)
    refine ⟨b :: bs, by rw [e, e2]; rfl, fun j c hc => ?_⟩
    cases j with
    | zero => have : b = c := by simpa using hc
              rw [<- this]; exact hb
    | succ j => exact h2 j c (by simpa using hc)
end Mw
namespace L2
open PySem PySem.Spec PyProof.Rows
def tFstr (t : TE) : TE := fun σ H Q => t σ H fun v H1 => ∃ i : Int, v = .int i /\ Bits 1900 i /\ ∀ y, Q (.str y) H1
theorem pe_fstr {X : Cx} {e : Expr} {t : TE} {x : Str} {k : Nat} {p0 p1 p2 : Pos} (he : PE X e t) (hx : x.length <= 1000) :
  PE X (.JoinedStr [.Constant (.str x) k p0, .FormattedValue e (-1) none p1] p2) (tFstr t) := by
 intro pins s σ H Q I h
 refine JoinedStr_many (joinParts_cons (Calls.Constant_str ?_))
 have z0 : (Str.empty : Str).length = 0 := rfl
 have z1 : (Str.empty ++ x).length <= 1000 := by rw [strLen_append, z0]; omega
 refine ⟨Nat.le_trans z1 (by rw [sizeLine_eq]; decide), ?_⟩
 refine joinParts_cons (FormattedValue_plain (thn (he pins _ σ H _ (I.tok _) h) fun u s1 ⟨v, H1, I1, rv, i, e1, hb, q⟩ => ?_))
 subst e1
 obtain ⟨tk, rfl⟩ := rv
 have hd : i.natAbs.log2 < 1920 := by
  by_cases z : i.natAbs = 0
  ·rw [z]; decide
  ·exact (Nat.log2_lt z).mpr (Nat.lt_of_lt_of_le hb (Nat.pow_le_pow_right (by decide) (by decide)))
 refine formatField_int_small hd ?_
 have z2 := int_text_length_le (k := 1920) (by decide) hd
 have z3 : (Str.empty ++ x ++ (Str.ofString (toString i))).length <= sizeLine := by
  rw [strLen_append, PySem.ofString_length, sizeLine_eq]; omega
 exact ⟨z3, joinParts_nil ⟨.str _, H1, I1.tok _, ⟨_, rfl⟩, q _⟩ z3⟩
end L2
namespace L2
open PySem PySem.Spec PyProof.Rows PySem.AutoSeq1
theorem tuple_mul2 (l : Addr) (items : Array Value) (n : Nat) (dd : Option Addr) (sl : Array (Option Value)) (x : Int) (u : Tok) (h0 : ¬(items.isEmpty || x == 1) = true) (h1 : ¬(decide (x < -(2 ^ 63)) || decide (x >= 2 ^ 63)) = true) (h2 : ¬(decide (x <= 0) || items.isEmpty) = true)
  (h3 : ¬((items.size : Int) * x > (2 ^ 63 - 1) / 8)) (h4 : ¬Builtin.Tuple.tupleTooMany ((items.size : Int) * x) = true) (hsz : (List.foldl (fun x1 x2 => x1 ++ x2) #[] (List.replicate x.toNat items)).size <= sizeLine) :
  Meets (Builtin.«tuple.__mul__» ⟨[.ref l, .int x u], []⟩) (fun _ R s => s.heap.get? l = some { cls := .type "tuple", dict := dd, data := .seq items n, slots := sl } /\ R (.ok (.ret (Value.ref s.heap.objs.size))) { s with heap := s.heap.push { cls := Value.type "tuple", data := Data.seq (List.foldl (fun x1 x2 => x1 ++ x2) #[] (List.replicate x.toNat items)) }, toks := s.toks }) :=
 .of_wp fun prog w A R s h => by
  obtain ⟨hp, g, d, tk, os⟩ := s; obtain ⟨hl, h⟩ := h
  have f1 := AutoSeq1.idx_int
  wp_walk using wpAny_loadPart' hl
  refine wpAny_ite_false (decide_eq_false h1) ?_
  wp_walk using wpAny_loadPart' hl
  refine wpAny_ite_false (decide_eq_false h3) ?_
  wp_walk using wpAny_loadPart' hl
  exact ⟨_, rfl, h⟩
theorem tuple_mul1 (l : Addr) (items : Array Value) (n : Nat) (dd : Option Addr) (sl : Array (Option Value)) (u : Tok) (hc : (items.isEmpty || (1 : Int) == 1) = true) (hc1 : ¬(decide ((1 : Int) < -(2 ^ 63)) || decide ((1 : Int) >= 2 ^ 63)) = true) :
  Meets (Builtin.«tuple.__mul__» ⟨[.ref l, .int 1 u], []⟩) (fun _ R s => s.heap.get? l = some { cls := .type "tuple", dict := dd, data := .seq items n, slots := sl } /\ R (.ok (.ret (Value.ref l))) s) :=
 .of_wp fun prog w A R s h => by
  obtain ⟨hp, g, d, tk, os⟩ := s; obtain ⟨hl, h⟩ := h
  have f1 := AutoSeq1.idx_int
  wp_walk using wpAny_loadPart' hl
  exact ⟨_, rfl, h⟩
theorem jD : fillsNumberSlot (.type "tuple") "mul" = pure false :=
 PySem.fillsNumberSlot_seq (id := "tuple.__mul__") (r := some (.builtin "tuple.__rmul__")) F.slot_tuple_mul.lookup (by decide +kernel) F.slot_tuple_rmul.lookup (by decide +kernel)
theorem lL : seqRepeat? (.type "tuple") = pure (some (.builtin "tuple.__mul__")) := by
 unfold seqRepeat?
 rw [PySem.seqSlot_of (T := "tuple") (name := "__mul__") (id := "tuple.__mul__") F.slot_tuple_mul.lookup (by decide +kernel), PySem.seqSlot_of (T := "tuple") (name := "__rmul__") (id := "tuple.__rmul__") F.slot_tuple_rmul.lookup (by decide +kernel)]
 rfl
theorem kE (a : Int) (t : Tok) (l : Addr) (items : Array Value) (n : Nat) (dd : Option Addr) (sl : Array (Option Value)) :
  Meets (Builtin.«int.__rmul__» ⟨[.int a t, .ref l], []⟩) (fun _ R s => s.heap.get? l = some { cls := .type "tuple", dict := dd, data := .seq items n, slots := sl } /\ R (.ok (.ret Value.notImplemented)) s) :=
 .of_wp fun prog w A R s h => by obtain ⟨hp, g, d, tk, os⟩ := s; obtain ⟨hl, h⟩ := h; wp_walk; exact ⟨_, rfl, h⟩
def rRepT (K : PySem.W.Frag) : R2 := fun x y H Q => ∃ a n xs, x = .ref a /\ y = .int n /\ SqT K H a xs /\ xs ≠ [] /\ 1 <= n /\ n <= 1000 /\ xs.length <= 1000 /\ (n = 1 -> Q (.ref a) H) /\ (n ≠ 1 -> ∀ p, H p = none -> Q (.ref p) (upd H p (.tup (List.replicate n.toNat xs).flatten)))
theorem op_repT {X : Cx} : OpR X (binaryOp .Mult) (rRepT X.K) := by
 intro pins s σ H x y v u Q I rx ry h
 obtain ⟨l, k, xs, rfl, rfl, hH, hne, h1, h2, hz, q1, q2⟩ := h
 cases rx
 obtain ⟨t, rfl⟩ := ry
 obtain ⟨its, r, tp, _⟩ := I.tuple hH
 obtain ⟨⟨cls, dd, data, sl⟩, ho, hc, n, hd⟩ := id tp
 simp only at hc hd
 subst hc hd
 have hl := r.length
 have hie : ¬ its = [] := fun z => hne (r.nil_iff.mp z)
 by_cases hk : k = 1
 ·subst hk
  refine wpAny_binaryOp_repeat_ref (T := "tuple") (U := "int") (by decide) ⟨_, ho, rfl⟩ (fun s' => typeIs_int s' 1 t) jD F.fills_int_mul F.slot_int_rmul lL F.slot_int_index.lookup
   (call_meets F.slot_int_rmul (typeIs_int s 1 t) F.entry_int_rmul (F.args_int_rmul_2 _ _) (kE 1 t l its.toArray n dd sl)
    ⟨ho, rfl, ⟨_, ho, rfl⟩, call_meets F.slot_tuple_mul ⟨_, ho, rfl⟩ F.entry_tuple_mul (F.args_tuple_mul_2 _ _) (tuple_mul1 l its.toArray n dd sl t (by simp) (by decide)) ⟨ho, ?_⟩⟩)
  exact ⟨.ref l, H, I, rfl, q1 rfl⟩
 ·have hnew : List.foldl (fun x1 x2 => x1 ++ x2) #[] (List.replicate k.toNat its.toArray) = (List.replicate k.toNat its).flatten.toArray := by
   have := l6 its k.toNat []
   rw [List.nil_append] at this
   exact this
  have hsm : (its.length : Int) * k <= 1000 * 1000 := by
   have a1 : (its.length : Int) <= 1000 := by omega
   have a2 : (0 : Int) <= its.length := by omega
   exact Int.le_trans (Int.mul_le_mul_of_nonneg_right a1 (by omega)) (Int.mul_le_mul_of_nonneg_left h2 (by decide))
  have hsn : k.toNat * its.length <= 1000 * 1000 := Nat.mul_le_mul (by omega) (by omega)
  have hsl : (sizeLine : Nat) = 2 ^ 24 := sizeLine_eq
  refine wpAny_binaryOp_repeat_ref (T := "tuple") (U := "int") (by decide) ⟨_, ho, rfl⟩ (fun s' => typeIs_int s' k t) jD F.fills_int_mul F.slot_int_rmul lL F.slot_int_index.lookup
   (call_meets F.slot_int_rmul (typeIs_int s k t) F.entry_int_rmul (F.args_int_rmul_2 _ _) (kE k t l its.toArray n dd sl)
    ⟨ho, rfl, ⟨_, ho, rfl⟩, call_meets F.slot_tuple_mul ⟨_, ho, rfl⟩ F.entry_tuple_mul (F.args_tuple_mul_2 _ _) (tuple_mul2 l its.toArray n dd sl k t ?_ ?_ ?_ ?_ ?_ ?_) ⟨ho, ?_⟩⟩)
  ·simp [hie, hk]
  ·simp; omega
  ·simp [hie]; omega
  ·simp only [List.size_toArray]; omega
  ·unfold Builtin.Tuple.tupleTooMany; simp only [List.size_toArray]; simp; omega
  ·rw [hnew, List.size_toArray, pK]; omega
  rw [hnew]
  refine ⟨.ref s.heap.objs.size, _, I.laid (t' := s.toks) (o := .tup (List.replicate k.toNat xs).flatten) (fun b ob q => Heap.get?_push_of_some _ q) (Nat.le_refl _) ?_, rfl, q2 hk _ (I.hok.fresh (Nat.le_refl _))⟩
  exact ⟨by rw [pK, hl]; omega, _, r.rep k.toNat, IsTup.new _ _⟩
end L2
namespace Mw
theorem jU {x y u v : Int} (hy : 0 < y) (hv : 0 < v) (g1 : Int.gcd x y = 1) (g2 : Int.gcd u v = 1) (h : x * v = u * y) : x = u /\ y = v := by
 have d1 : y.natAbs ∣ v.natAbs := by
  have : y.natAbs ∣ x.natAbs * v.natAbs := by rw [<- Int.natAbs_mul, h, Int.natAbs_mul]; exact Nat.dvd_mul_left _ _
  exact Nat.Coprime.dvd_of_dvd_mul_left (show Nat.Coprime y.natAbs x.natAbs by rw [Nat.coprime_comm]; exact g1) this
 have d2 : v.natAbs ∣ y.natAbs := by
  have : v.natAbs ∣ u.natAbs * y.natAbs := by rw [<- Int.natAbs_mul, <- h, Int.natAbs_mul]; exact Nat.dvd_mul_left _ _
  exact Nat.Coprime.dvd_of_dvd_mul_left (show Nat.Coprime v.natAbs u.natAbs by rw [Nat.coprime_comm]; exact g2) this
 have e : y.natAbs = v.natAbs := Nat.dvd_antisymm d1 d2
 have e2 : y = v := by omega
 subst e2
 exact ⟨Int.eq_of_mul_eq_mul_right (by omega) h, rfl⟩
end Mw
namespace Mw
open PySem L2
variable [LamPos]
theorem eM {α β : Type} {R : α -> β -> Prop} : ∀ {as : List α} {bs : List β}, as.length = bs.length -> (∀ (j : Nat) a b, as[j]? = some a -> bs[j]? = some b -> R a b) -> Paired R as bs
 | [], [], _, _ => .nil
 | [], _ :: _, h, _ => by simp at h
 | _ :: _, [], h, _ => by simp at h
 | a :: as, b :: bs, h, q => (.cons (q 0 a b rfl rfl) (eM (by simpa using h) fun j x y hx hy => q (j + 1) x y (by simpa using hx) (by simpa using hy)))
end Mw
namespace Mw
theorem qJ {ws xs : List Int} {c : Int} (h : ws.length = xs.length) : (mv c ws xs).length = ws.length := by
 unfold mv; rw [List.length_zipWith, h]; exact Nat.min_self _
end Mw
namespace Mw
open PySem L2
variable [LamPos]
abbrev numsV (bk : List Nat) : List V := bk.map fun n : Nat => V.int (n : Int)
end Mw
namespace Mw
def sm : Nat -> (Nat -> Int) -> Int
 | 0, _ => 0
 | n + 1, f => sm n f + f n
section
variable {n m : Nat} {f g : Nat -> Int}
theorem aK (h : ∀ i, i < n -> f i = g i) : sm n f = sm n g := by
 induction n with
 | zero => rfl
 | succ n ih => show sm n f + f n = sm n g + g n; rw [ih fun i hi => h i (Nat.lt_succ_of_lt hi), h n (Nat.lt_succ_self n)]
theorem d7 (h : ∀ i, i < n -> f i = 0) : sm n f = 0 := by
 induction n with
 | zero => rfl
 | succ n ih => show sm n f + f n = 0; rw [ih fun i hi => h i (Nat.lt_succ_of_lt hi), h n (Nat.lt_succ_self n)]; rfl
theorem e6 (n : Nat) (f g : Nat -> Int) : sm n (fun i => f i + g i) = sm n f + sm n g := by
 induction n with
 | zero => rfl
 | succ n ih => show sm n _ + (f n + g n) = sm n f + f n + (sm n g + g n); rw [ih]; omega
theorem lH (n : Nat) (f : Nat -> Int) : sm n (fun i => -f i) = -sm n f := by
 induction n with
 | zero => rfl
 | succ n ih => show sm n _ + -f n = -(sm n f + f n); rw [ih]; omega
theorem sm_sub (n : Nat) (f g : Nat -> Int) : sm n (fun i => f i - g i) = sm n f - sm n g := by
 induction n with
 | zero => rfl
 | succ n ih => show sm n _ + (f n - g n) = sm n f + f n - (sm n g + g n); rw [ih]; omega
theorem bT (n : Nat) (c : Int) (f : Nat -> Int) : sm n (fun i => c * f i) = c * sm n f := by
 induction n with
 | zero => show (0 : Int) = c * 0; rw [Int.mul_zero]
 | succ n ih => show sm n _ + c * f n = c * (sm n f + f n); rw [ih, Int.mul_add]
theorem cV (n : Nat) (c : Int) (f : Nat -> Int) : sm n (fun i => f i * c) = sm n f * c := by
 rw [Int.mul_comm, <- bT]
 exact aK fun i _ => Int.mul_comm _ _
theorem eO (n m : Nat) (f : Nat -> Nat -> Int) : sm n (fun i => sm m (f i)) = sm m (fun j => sm n fun i => f i j) := by
 induction n with
 | zero => exact (d7 fun _ _ => rfl).symm
 | succ n ih =>
  show sm n _ + sm m (f n) = sm m fun j => sm n (fun i => f i j) + f n j
  rw [ih, e6]
theorem pC (n : Nat) (f : Nat -> Int) : sm (n + 1) f = f 0 + sm n (fun i => f (i + 1)) := by
 induction n with
 | zero => show 0 + f 0 = f 0 + 0; omega
 | succ n ih =>
  have e : sm (n + 2) f = sm (n + 1) f + f (n + 1) := rfl
  have e2 : sm (n + 1) (fun i => f (i + 1)) = sm n (fun i => f (i + 1)) + f (n + 1) := rfl
  rw [e, ih, e2]; omega
theorem d8 {k : Nat} (hk : k < n) (h : ∀ i, i < n -> i ≠ k -> f i = 0) : sm n f = f k := by
 induction n with
 | zero => omega
 | succ n ih =>
  show sm n f + f n = f k
  by_cases e : k = n
  ·subst e
   rw [d7 fun i hi => h i (by omega) (by omega)]; omega
  ·rw [ih (by omega) fun i hi hne => h i (by omega) hne, h n (by omega) (by omega)]; omega
end
def skp (j x : Nat) : Nat := if x < j then x else x + 1
theorem i7 {j x : Nat} (h : x < j) : skp j x = x := if_pos h
theorem n6 {j x : Nat} (h : j <= x) : skp j x = x + 1 := if_neg (by omega)
theorem skp_ne (j x : Nat) : skp j x ≠ j := by unfold skp; split <;> omega
theorem dI {j x n : Nat} (h : x < n) (hj : j <= n) : skp j x < n + 1 := by unfold skp; split <;> omega
theorem skp_inj {j x y : Nat} (h : skp j x = skp j y) : x = y := by
 unfold skp at h
 split at h <;> split at h <;> omega
theorem skp_onto {j l : Nat} {n : Nat} (h : l ≠ j) (hl : l < n + 1) (hj : j < n + 1) : ∃ x, x < n /\ skp j x = l := by
 by_cases q : l < j
 ·exact ⟨l, by omega, i7 q⟩
 ·exact ⟨l - 1, by omega, by rw [n6 (by omega)]; omega⟩
theorem skp_skp {a b x : Nat} (h : a <= b) : skp a (skp b x) = skp (b + 1) (skp a x) := by
 unfold skp
 (repeat' split) <;> omega
theorem sm_skp {n j : Nat} (hj : j < n + 1) (f : Nat -> Int) : sm (n + 1) f = f j + sm n (fun b => f (skp j b)) := by
 induction n with
 | zero =>
  have : j = 0 := by omega
  subst this
  show 0 + f 0 = f 0 + 0; omega
 | succ n ih =>
  by_cases e : j = n + 1
  ·subst e
   show sm (n + 1) f + f (n + 1) = _
   rw [Int.add_comm]
   congr 1
   exact aK fun i hi => by rw [i7 hi]
  ·show sm (n + 1) f + f (n + 1) = f j + (sm n (fun b => f (skp j b)) + f (skp j n))
   rw [ih (by omega), n6 (show j <= n by omega)]; omega
def sg (j : Nat) : Int := if j % 2 = 0 then 1 else -1
theorem mL (j : Nat) : sg (j + 1) = -sg j := by
 unfold sg
 split <;> split <;> omega
theorem sg_sq (j : Nat) : sg j * sg j = 1 := by
 unfold sg
 split <;> decide
theorem sg_add (i j : Nat) : sg (i + j) = sg i * sg j := by
 induction i with
 | zero => rw [Nat.zero_add]; show sg j = 1 * sg j; rw [Int.one_mul]
 | succ i ih => rw [show i + 1 + j = (i + j) + 1 by omega, mL, mL, ih, Int.neg_mul]
abbrev Mat := Nat -> Nat -> Int
def minor (M : Mat) (i j : Nat) : Mat := fun a b => M (skp i a) (skp j b)
def det : Nat -> Mat -> Int
 | 0, _ => 1
 | n + 1, M => sm (n + 1) fun j => sg j * M 0 j * det n fun a b => M (a + 1) (skp j b)
theorem fD (n : Nat) (M : Mat) : det (n + 1) M = sm (n + 1) fun j => sg j * M 0 j * det n fun a b => M (a + 1) (skp j b) := rfl
theorem cY {n : Nat} : ∀ {M M' : Mat}, (∀ a b, a < n -> b < n -> M a b = M' a b) -> det n M = det n M' := by
 induction n with
 | zero => intro M M' _; rfl
 | succ n ih =>
  intro M M' h
  rw [fD, fD]
  refine aK fun j hj => ?_
  rw [h 0 j (by omega) hj, ih fun a b ha hb => h _ _ (by omega) (dI hb (by omega))]
theorem sm_pairs {m l : Nat} (hl : l <= m) (f : Nat -> Int) : sm (m + 2) f = sm (m + 1) (fun j => if j <= l then f j else 0) + sm (m + 1) (fun j => if l <= j then f (j + 1) else 0) := by
 induction m with
 | zero =>
  have : l = 0 := by omega
  subst this
  show 0 + f 0 + f 1 = (0 + if 0 <= 0 then f 0 else 0) + (0 + if 0 <= 0 then f 1 else 0)
  rw [if_pos (Nat.le_refl 0), if_pos (Nat.le_refl 0)]; omega
 | succ m ih =>
  show sm (m + 2) f + f (m + 2) = (sm (m + 1) _ + if m + 1 <= l then f (m + 1) else 0) + (sm (m + 1) _ + if l <= m + 1 then f (m + 2) else 0)
  rw [if_pos hl]
  by_cases e : l <= m
  ·rw [ih e, if_neg (by omega)]; omega
  ·have e1 : l = m + 1 := by omega
   subst e1
   rw [if_pos (Nat.le_refl _), d7 (n := m + 1) (f := fun j => if m + 1 <= j then f (j + 1) else 0) fun j hj => if_neg (by omega), aK (n := m + 1) (f := fun j => if j <= m + 1 then f j else 0) (g := f) fun j hj => if_pos (by omega)]
   show sm (m + 1) f + f (m + 1) + f (m + 2) = _
   omega
theorem sm2_pairs (m : Nat) (f : Nat -> Nat -> Int) : sm (m + 2) (fun j => sm (m + 1) (f j)) = sm (m + 1) fun b => sm (m + 1) fun a => if a <= b then f a b + f (b + 1) a else 0 := by
 have e : sm (m + 1) (fun b => sm (m + 1) fun a => if a <= b then f a b + f (b + 1) a else 0) = sm (m + 1) (fun b => sm (m + 1) fun a => if a <= b then f a b else 0) + sm (m + 1) (fun b => sm (m + 1) fun a => if a <= b then f (b + 1) a else 0) := by
  rw [<- e6]
  refine aK fun b _ => ?_
  rw [<- e6]
  refine aK fun a _ => ?_
  split <;> omega
 rw [e, eO, eO (m + 1) (m + 1) fun b a => if a <= b then f (b + 1) a else 0, <- e6]
 exact aK fun l hl => sm_pairs (by omega) fun j => f j l
def swp (i a : Nat) : Nat := if a = i then i + 1 else if a = i + 1 then i else a
theorem swp_succ (i a : Nat) : swp (i + 1) (a + 1) = swp i a + 1 := by
 unfold swp
 split <;> split <;> (try split) <;> (try split) <;> omega
theorem det_two (m : Nat) (M : Mat) : det (m + 2) M = sm (m + 1) fun b => sm (m + 1) fun a => if a <= b then sg a * sg b * (M 0 a * M 1 (b + 1) - M 0 (b + 1) * M 1 a) * det m (fun x y => M (x + 2) (skp a (skp b y))) else 0 := by
 have e : det (m + 2) M = sm (m + 2) fun j => sm (m + 1) fun l => sg j * M 0 j * (sg l * M 1 (skp j l) * det m fun x y => M (x + 2) (skp j (skp l y))) := by
  rw [fD]
  refine aK fun j _ => ?_
  rw [fD, <- bT]
 rw [e, sm2_pairs]
 refine aK fun b _ => aK fun a _ => ?_
 by_cases h : a <= b
 ·rw [if_pos h, if_pos h, n6 h, i7 (show a < b + 1 by omega), mL]
  have e2 : det m (fun x y => M (x + 2) (skp (b + 1) (skp a y))) = det m (fun x y => M (x + 2) (skp a (skp b y))) := cY fun x y _ _ => by rw [skp_skp h]
  rw [e2]
  generalize det m (fun x y => M (x + 2) (skp a (skp b y))) = D
  generalize M 0 a = p
  generalize M 1 (b + 1) = q
  generalize M 0 (b + 1) = r
  generalize M 1 a = s
  generalize sg a = u
  generalize sg b = v
  grind
 ·rw [if_neg h, if_neg h]
theorem pQ {n : Nat} : ∀ {i : Nat} {M : Mat}, i + 1 < n -> det n (fun a b => M (swp i a) b) = -det n M := by
 induction n with
 | zero => intro i M h; omega
 | succ n ih =>
  intro i M h
  cases i with
  | succ i =>
   rw [fD, fD, <- lH]
   refine aK fun j _ => ?_
   have e : det n (fun a b => M (swp (i + 1) (a + 1)) (skp j b)) = -det n (fun a b => M (a + 1) (skp j b)) := by
    have := ih (i := i) (M := fun a b => M (a + 1) (skp j b)) (by omega)
    rw [<- this]
    exact cY fun a b _ _ => by rw [swp_succ]
   have e0 : swp (i + 1) 0 = 0 := by unfold swp; rw [if_neg (by omega), if_neg (by omega)]
   show sg j * M (swp (i + 1) 0) j * det n (fun a b => M (swp (i + 1) (a + 1)) (skp j b)) = _
   rw [e, e0, Int.mul_neg]
  | zero =>
   obtain ⟨m, rfl⟩ : ∃ m, n = m + 1 := ⟨n - 1, by omega⟩
   rw [det_two, det_two, <- lH]
   refine aK fun b _ => ?_
   rw [<- lH]
   refine aK fun a _ => ?_
   by_cases h : a <= b
   ·rw [if_pos h, if_pos h]
    have e : det m (fun x y => M (swp 0 (x + 2)) (skp a (skp b y))) = det m (fun x y => M (x + 2) (skp a (skp b y))) := cY fun x y _ _ => by
     have : swp 0 (x + 2) = x + 2 := by unfold swp; rw [if_neg (by omega), if_neg (by omega)]
     rw [this]
    show sg a * sg b * (M (swp 0 0) a * M (swp 0 1) (b + 1) - M (swp 0 0) (b + 1) * M (swp 0 1) a) * det m (fun x y => M (swp 0 (x + 2)) (skp a (skp b y))) = _
    rw [e, show swp 0 0 = 1 from rfl, show swp 0 1 = 0 from rfl]
    generalize det m (fun x y => M (x + 2) (skp a (skp b y))) = D
    rw [show M 1 a * M 0 (b + 1) - M 1 (b + 1) * M 0 a = -(M 0 a * M 1 (b + 1) - M 0 (b + 1) * M 1 a) by rw [Int.mul_comm (M 1 a), Int.mul_comm (M 1 (b + 1))]; omega]
    rw [Int.mul_neg, Int.neg_mul]
   ·rw [if_neg h, if_neg h]; rfl
theorem det_alike1 {n i : Nat} {M : Mat} (h : i + 1 < n) (e : ∀ b, M i b = M (i + 1) b) : det n M = 0 := by
 have s := pQ (M := M) h
 have e2 : det n (fun a b => M (swp i a) b) = det n M := cY fun a b _ _ => by
  unfold swp
  by_cases q : a = i
  ·rw [if_pos q, q]; exact (e b).symm
  ·by_cases q2 : a = i + 1
   ·rw [if_neg q, if_pos q2, q2]; exact e b
   ·rw [if_neg q, if_neg q2]
 omega
theorem l9 {n : Nat} : ∀ {k i : Nat} {M : Mat}, i + k + 1 < n -> (∀ b, M i b = M (i + k + 1) b) -> det n M = 0
 | 0, i, M, h, e => det_alike1 h e
 | k + 1, i, M, h, e => by
  have s := pQ (n := n) (M := M) (i := i + k + 1) (by omega)
  have z : det n (fun a b => M (swp (i + k + 1) a) b) = 0 := l9 (k := k) (i := i) (by omega) fun b => by
   have e1 : swp (i + k + 1) i = i := by unfold swp; rw [if_neg (by omega), if_neg (by omega)]
   have e2 : swp (i + k + 1) (i + k + 1) = i + (k + 1) + 1 := by unfold swp; rw [if_pos rfl]; omega
   show M (swp (i + k + 1) i) b = M (swp (i + k + 1) (i + k + 1)) b
   rw [e1, e2]; exact e b
  omega
def rowUp (M : Mat) (i : Nat) : Mat := fun a b => match a with
 | 0 => M i b
 | a + 1 => M (skp i a) b
theorem det_rowUp {n : Nat} : ∀ {i : Nat} {M : Mat}, i < n -> det n (rowUp M i) = sg i * det n M
 | 0, M, h => by
  have : det n (rowUp M 0) = det n M := cY fun a b _ _ => by
   cases a with
   | zero => rfl
   | succ a => show M (skp 0 a) b = M (a + 1) b; rw [n6 (Nat.zero_le _)]
  rw [this]; show _ = 1 * _; rw [Int.one_mul]
 | i + 1, M, h => by
  have z := det_rowUp (n := n) (i := i) (M := fun a b => M (swp i a) b) (by omega)
  rw [pQ h] at z
  rw [mL, Int.neg_mul, <- Int.mul_neg, <- z]
  refine cY fun a b _ _ => ?_
  cases a with
  | zero => show M (i + 1) b = M (swp i i) b; unfold swp; rw [if_pos rfl]
  | succ a =>
   show M (skp (i + 1) a) b = M (swp i (skp i a)) b
   have : skp (i + 1) a = swp i (skp i a) := by
    unfold swp skp
    split <;> split <;> (try split) <;> (try split) <;> omega
   rw [this]
def cof (n : Nat) (M : Mat) (i j : Nat) : Int := sg (i + j) * det n (minor M i j)
theorem cof_sum {n : Nat} {M : Mat} {l i : Nat} (hl : l < n + 1) (hi : i < n + 1) : sm (n + 1) (fun j => M l j * cof n M i j) = if l = i then det (n + 1) M else 0 := by
 let Z : Mat := fun a b => match a with
  | 0 => M l b
  | a + 1 => M (skp i a) b
 have e : sm (n + 1) (fun j => M l j * cof n M i j) = sg i * det (n + 1) Z := by
  rw [fD, <- bT]
  refine aK fun j _ => ?_
  show M l j * (sg (i + j) * det n (minor M i j)) = sg i * (sg j * M l j * det n (minor M i j))
  rw [sg_add]
  simp only [Int.mul_comm, Int.mul_left_comm, Int.mul_assoc]
 rw [e]
 by_cases h : l = i
 ·subst h
  rw [if_pos rfl]
  have : det (n + 1) Z = sg l * det (n + 1) M := by
   rw [<- det_rowUp hl]
   exact cY fun a b _ _ => by cases a <;> rfl
  rw [this, <- Int.mul_assoc, sg_sq, Int.one_mul]
 ·rw [if_neg h]
  obtain ⟨x, hx, ex⟩ := skp_onto h hl hi
  have : det (n + 1) Z = 0 := l9 (k := x) (i := 0) (by omega) fun b => by
   rw [Nat.zero_add]
   show M l b = M (skp i x) b
   rw [ex]
  rw [this, Int.mul_zero]
end Mw
namespace Mw
def adj : Nat -> Mat -> Mat
 | 0, _ => fun _ _ => 0
 | n + 1, M => fun i j => cof n M j i
theorem dE {n : Nat} {M : Mat} {l i : Nat} (hl : l < n) (hi : i < n) : sm n (fun j => M l j * adj n M j i) = if l = i then det n M else 0 := by
 cases n with
 | zero => omega
 | succ n => exact cof_sum hl hi
theorem nV {n : Nat} {M : Mat} {i : Nat} : adj (n + 1) M i i = det n (minor M i i) := by
 show sg (i + i) * _ = _
 rw [sg_add, sg_sq, Int.one_mul]
theorem kX {n : Nat} {M : Mat} : adj (n + 1) M n n = det n M := by
 rw [nV]
 exact cY fun a b ha hb => by
  show M (skp n a) (skp n b) = _
  rw [i7 ha, i7 hb]
theorem adj_congr {n : Nat} {M M' : Mat} (h : ∀ a b, a < n -> b < n -> M a b = M' a b) {i j : Nat} (hi : i < n) (hj : j < n) : adj n M i j = adj n M' i j := by
 cases n with
 | zero => omega
 | succ n =>
  show sg (j + i) * det n (minor M j i) = sg (j + i) * det n (minor M' j i)
  have : det n (minor M j i) = det n (minor M' j i) := cY fun a b ha hb => h _ _ (dI ha (by omega)) (dI hb (by omega))
  rw [this]
def Sym (n : Nat) (M : Mat) : Prop := ∀ i j, i < n -> j < n -> M i j = M j i
section
variable {n : Nat} {M : Mat}
theorem pW (hs : Sym n M) (hD : det n M ≠ 0) : Sym n (adj n M) := fun i l hi hl => by
 have e1 : sm n (fun a => adj n M a l * sm n fun b => M a b * adj n M b i) = adj n M i l * det n M := by
  rw [d8 (k := i) hi fun a ha hne => by rw [dE ha hi, if_neg hne, Int.mul_zero], dE hi hi, if_pos rfl]
 have e2 : sm n (fun b => adj n M b i * sm n fun a => M b a * adj n M a l) = adj n M l i * det n M := by
  rw [d8 (k := l) hl fun a ha hne => by rw [dE ha hl, if_neg hne, Int.mul_zero], dE hl hl, if_pos rfl]
 have e3 : sm n (fun a => adj n M a l * sm n fun b => M a b * adj n M b i) = sm n (fun b => adj n M b i * sm n fun a => M b a * adj n M a l) := by
  have f1 : ∀ a, adj n M a l * sm n (fun b => M a b * adj n M b i) = sm n fun b => adj n M a l * (M a b * adj n M b i) := fun a => (bT _ _ _).symm
  have f2 : ∀ b, adj n M b i * sm n (fun a => M b a * adj n M a l) = sm n fun a => adj n M b i * (M b a * adj n M a l) := fun a => (bT _ _ _).symm
  rw [aK fun a _ => f1 a, aK fun b _ => f2 b, eO]
  refine aK fun b hb => aK fun a ha => ?_
  rw [hs a b ha hb]; grind
 rw [e1, e2] at e3
 exact Int.eq_of_mul_eq_mul_right hD e3
theorem gH (hs : Sym n M) (hD : det n M ≠ 0) {l i : Nat} (hl : l < n) (hi : i < n) : sm n (fun j => adj n M l j * M j i) = if l = i then det n M else 0 := by
 have e : sm n (fun j => adj n M l j * M j i) = sm n (fun j => M i j * adj n M j l) := aK fun j hj => by
  rw [pW hs hD l j hl hj, hs j i hj hi, Int.mul_comm]
 rw [e, dE hi hl]
 by_cases h : l = i
 ·rw [if_pos h, if_pos h.symm]
 ·rw [if_neg h, if_neg fun z => h z.symm]
end
section
variable {n : Nat} {M : Mat}
def img (n : Nat) (N : Mat) (c : Nat -> Int) (i : Nat) : Int := sm n fun j => N i j * c j
theorem Sym.lead (hs : Sym (n + 1) M) : Sym n M := fun i j hi hj => hs i j (by omega) (by omega)
theorem nM (hs : Sym (n + 1) M) (hD : det n M ≠ 0) {i : Nat} (hi : i < n) : adj (n + 1) M i n = -img n (adj n M) (fun j => M j n) i := by
 have q : ∀ l, l < n -> sm n (fun j => M l j * adj (n + 1) M j n) = -(M l n * det n M) := fun l hl => by
  have := dE (n := n + 1) (M := M) (l := l) (i := n) (by omega) (by omega)
  rw [if_neg (by omega)] at this
  have e : sm (n + 1) (fun j => M l j * adj (n + 1) M j n) = sm n (fun j => M l j * adj (n + 1) M j n) + M l n * adj (n + 1) M n n := rfl
  rw [e, kX] at this
  omega
 have e1 : sm n (fun l => adj n M i l * sm n fun j => M l j * adj (n + 1) M j n) = det n M * adj (n + 1) M i n := by
  have f1 : ∀ l, adj n M i l * sm n (fun j => M l j * adj (n + 1) M j n) = sm n fun j => adj n M i l * (M l j * adj (n + 1) M j n) := fun a => (bT _ _ _).symm
  rw [aK fun a _ => f1 a, eO]
  have f2 : ∀ j, j < n -> sm n (fun l => adj n M i l * (M l j * adj (n + 1) M j n)) = (if i = j then det n M else 0) * adj (n + 1) M j n := fun j hj => by
   rw [<- gH hs.lead hD hi hj, <- cV]
   exact aK fun l _ => (Int.mul_assoc _ _ _).symm
  rw [aK f2, d8 (k := i) hi fun j hj hne => by rw [if_neg fun z => hne z.symm, Int.zero_mul], if_pos rfl]
 have e2 : sm n (fun l => adj n M i l * sm n fun j => M l j * adj (n + 1) M j n) = -(img n (adj n M) (fun j => M j n) i * det n M) := by
  unfold img
  rw [<- cV, <- lH]
  refine aK fun l hl => ?_
  rw [q l hl]; grind
 rw [e1] at e2
 refine Int.eq_of_mul_eq_mul_left hD ?_
 rw [e2]; grind
theorem grow_det (hs : Sym (n + 1) M) (hD : det n M ≠ 0) : det (n + 1) M = det n M * M n n - sm n (fun j => M j n * img n (adj n M) (fun j => M j n) j) := by
 have := dE (n := n + 1) (M := M) (l := n) (i := n) (by omega) (by omega)
 rw [if_pos rfl] at this
 have e : sm (n + 1) (fun j => M n j * adj (n + 1) M j n) = sm n (fun j => M n j * adj (n + 1) M j n) + M n n * adj (n + 1) M n n := rfl
 rw [e, kX] at this
 have e2 : sm n (fun j => M n j * adj (n + 1) M j n) = -sm n (fun j => M j n * img n (adj n M) (fun j => M j n) j) := by
  rw [<- lH]
  refine aK fun j hj => ?_
  rw [nM hs hD hj, hs n j (by omega) (by omega), Int.mul_neg]
 rw [e2] at this
 rw [<- this, Int.mul_comm (M n n)]; omega
theorem grow_row (hs : Sym (n + 1) M) (hD : det n M ≠ 0) (hD' : det (n + 1) M ≠ 0) {i : Nat} (hi : i < n) : adj (n + 1) M n i = -img n (adj n M) (fun j => M j n) i := by
 rw [pW hs hD' n i (by omega) (by omega), nM hs hD hi]
theorem grow_rest (hs : Sym (n + 1) M) (hD : det n M ≠ 0) (hD' : det (n + 1) M ≠ 0) {i j : Nat} (hi : i < n) (hj : j < n) :
  det n M * adj (n + 1) M i j = det (n + 1) M * adj n M i j + img n (adj n M) (fun j => M j n) i * img n (adj n M) (fun j => M j n) j := by
 have q : ∀ l, l < n -> sm n (fun a => M l a * adj (n + 1) M a j) = (if l = j then det (n + 1) M else 0) + M l n * img n (adj n M) (fun j => M j n) j := fun l hl => by
  have := dE (n := n + 1) (M := M) (l := l) (i := j) (by omega) (by omega)
  have e : sm (n + 1) (fun a => M l a * adj (n + 1) M a j) = sm n (fun a => M l a * adj (n + 1) M a j) + M l n * adj (n + 1) M n j := rfl
  rw [e, grow_row hs hD hD' hj] at this
  rw [<- this]; grind
 have e1 : sm n (fun l => adj n M i l * sm n fun a => M l a * adj (n + 1) M a j) = det n M * adj (n + 1) M i j := by
  have f1 : ∀ l, adj n M i l * sm n (fun a => M l a * adj (n + 1) M a j) = sm n fun a => adj n M i l * (M l a * adj (n + 1) M a j) := fun a => (bT _ _ _).symm
  rw [aK fun a _ => f1 a, eO]
  have f2 : ∀ a, a < n -> sm n (fun l => adj n M i l * (M l a * adj (n + 1) M a j)) = (if i = a then det n M else 0) * adj (n + 1) M a j := fun a ha => by
   rw [<- gH hs.lead hD hi ha, <- cV]
   exact aK fun l _ => (Int.mul_assoc _ _ _).symm
  rw [aK f2, d8 (k := i) hi fun j hj hne => by rw [if_neg fun z => hne z.symm, Int.zero_mul], if_pos rfl]
 rw [<- e1]
 have e2 : sm n (fun l => adj n M i l * sm n fun a => M l a * adj (n + 1) M a j) = sm n (fun l => adj n M i l * (if l = j then det (n + 1) M else 0)) + sm n (fun l => adj n M i l * M l n * img n (adj n M) (fun j => M j n) j) := by
  rw [<- e6]
  refine aK fun l hl => ?_
  rw [q l hl]; grind
 rw [e2, d8 (k := j) hj fun l hl hne => by rw [if_neg hne, Int.mul_zero], if_pos rfl, cV]
 show adj n M i j * det (n + 1) M + img n (adj n M) (fun j => M j n) i * _ = _
 rw [Int.mul_comm (adj n M i j)]
end
theorem Sym.minor {n : Nat} {M : Mat} (hs : Sym (n + 1) M) {i : Nat} (hi : i < n + 1) : Sym n (minor M i i) := fun a b ha hb => hs _ _ (dI ha (by omega)) (dI hb (by omega))
theorem less_rest {n : Nat} {M : Mat} (hs : Sym (n + 1) M) (hD : det (n + 1) M ≠ 0) {i : Nat} (hi : i < n + 1) (hDs : det n (minor M i i) ≠ 0) {a b : Nat} (ha : a < n) (hb : b < n) :
  det (n + 1) M * adj n (minor M i i) a b = det n (minor M i i) * adj (n + 1) M (skp i a) (skp i b) - adj (n + 1) M (skp i a) i * adj (n + 1) M i (skp i b) := by
 have ha' : skp i a < n + 1 := dI ha (by omega)
 -- X A = Ds D I
 have q : ∀ c, c < n -> sm n (fun b => (det n (minor M i i) * adj (n + 1) M (skp i a) (skp i b) - adj (n + 1) M (skp i a) i * adj (n + 1) M i (skp i b)) * minor M i i b c) = if a = c then det n (minor M i i) * det (n + 1) M else 0 := fun c hc => by
  have hc' : skp i c < n + 1 := dI hc (by omega)
  have r1 := gH hs hD (l := skp i a) (i := skp i c) ha' hc'
  have r2 := gH hs hD (l := i) (i := skp i c) hi hc'
  rw [sm_skp hi] at r1 r2
  rw [if_neg fun z => skp_ne i c z.symm] at r2
  have e1 : (if skp i a = skp i c then det (n + 1) M else 0) = if a = c then det (n + 1) M else 0 := by
   by_cases h : a = c
   ·rw [if_pos h, if_pos (by rw [h])]
   ·rw [if_neg h, if_neg fun z => h (skp_inj z)]
  rw [e1] at r1
  have e2 : sm n (fun b => (det n (minor M i i) * adj (n + 1) M (skp i a) (skp i b) - adj (n + 1) M (skp i a) i * adj (n + 1) M i (skp i b)) * minor M i i b c) = det n (minor M i i) * sm n (fun b => adj (n + 1) M (skp i a) (skp i b) * M (skp i b) (skp i c)) - adj (n + 1) M (skp i a) i * sm n (fun b => adj (n + 1) M i (skp i b) * M (skp i b) (skp i c)) := by
   rw [<- bT, <- bT, <- sm_sub]
   refine aK fun b _ => ?_
   show _ * M (skp i b) (skp i c) = _
   grind
  rw [e2]
  have e3 := nV (n := n) (M := M) (i := i)
  generalize sm n (fun b => adj (n + 1) M (skp i a) (skp i b) * M (skp i b) (skp i c)) = s1 at *
  generalize sm n (fun b => adj (n + 1) M i (skp i b) * M (skp i b) (skp i c)) = s2 at *
  have g1 : s1 = (if a = c then det (n + 1) M else 0) - adj (n + 1) M (skp i a) i * M i (skp i c) := by omega
  have g2 : s2 = -(adj (n + 1) M i i * M i (skp i c)) := by omega
  rw [g1, g2, e3]
  by_cases h : a = c
  ·rw [if_pos h, if_pos h]; grind
  ·rw [if_neg h, if_neg h]; grind
 -- times the small adjugate
 have hsm := hs.minor hi
 have e1 : sm n (fun c => sm n (fun b => (det n (minor M i i) * adj (n + 1) M (skp i a) (skp i b) - adj (n + 1) M (skp i a) i * adj (n + 1) M i (skp i b)) * minor M i i b c) * adj n (minor M i i) c b) = det n (minor M i i) * det (n + 1) M * adj n (minor M i i) a b := by
  rw [aK fun c hc => by rw [q c hc], d8 (k := a) ha fun c _ hne => by rw [if_neg fun z => hne z.symm, Int.zero_mul], if_pos rfl]
 have e2 : sm n (fun c => sm n (fun b => (det n (minor M i i) * adj (n + 1) M (skp i a) (skp i b) - adj (n + 1) M (skp i a) i * adj (n + 1) M i (skp i b)) * minor M i i b c) * adj n (minor M i i) c b) = (det n (minor M i i) * adj (n + 1) M (skp i a) (skp i b) - adj (n + 1) M (skp i a) i * adj (n + 1) M i (skp i b)) * det n (minor M i i) := by
  have f1 : ∀ c, sm n (fun b => (det n (minor M i i) * adj (n + 1) M (skp i a) (skp i b) - adj (n + 1) M (skp i a) i * adj (n + 1) M i (skp i b)) * minor M i i b c) * adj n (minor M i i) c b = sm n fun d => (det n (minor M i i) * adj (n + 1) M (skp i a) (skp i d) - adj (n + 1) M (skp i a) i * adj (n + 1) M i (skp i d)) * minor M i i d c * adj n (minor M i i) c b := fun c => (cV _ _ _).symm
  rw [aK fun c _ => f1 c, eO]
  have f2 : ∀ d, d < n -> sm n (fun c => (det n (minor M i i) * adj (n + 1) M (skp i a) (skp i d) - adj (n + 1) M (skp i a) i * adj (n + 1) M i (skp i d)) * minor M i i d c * adj n (minor M i i) c b) = (det n (minor M i i) * adj (n + 1) M (skp i a) (skp i d) - adj (n + 1) M (skp i a) i * adj (n + 1) M i (skp i d)) * (if d = b then det n (minor M i i) else 0) := fun d hd => by
   rw [<- dE hd hb, <- bT]
   exact aK fun c _ => Int.mul_assoc _ _ _
  rw [aK f2, d8 (k := b) hb fun d hd hne => by rw [if_neg hne, Int.mul_zero], if_pos rfl]
 rw [e1] at e2
 refine Int.eq_of_mul_eq_mul_left hDs ?_
 rw [<- Int.mul_assoc, e2, Int.mul_comm]
end Mw
namespace Mw
abbrev Vec := Nat -> Int
def ip (d : Nat) (x y : Vec) : Int := sm d fun t => x t * y t
def lc (k : Nat) (a : Nat -> Int) (w : Nat -> Vec) : Vec := fun t => sm k fun i => a i * w i t
section
variable {d k : Nat} {x y z : Vec} {a b : Nat -> Int} {w : Nat -> Vec}
theorem dF (x y : Vec) : ip d x y = ip d y x := aK fun _ _ => Int.mul_comm _ _
theorem gI (z : Int) : 0 <= z * z := by
 rcases Int.le_total 0 z with h | h
 ·exact Int.mul_nonneg h h
 ·have := Int.mul_nonneg (show 0 <= -z by omega) (show 0 <= -z by omega)
  rw [Int.neg_mul_neg] at this; exact this
theorem jP {n : Nat} {f : Nat -> Int} (h : ∀ i, i < n -> 0 <= f i) : 0 <= sm n f := by
 induction n with
 | zero => exact Int.le_refl _
 | succ n ih => have := ih fun i hi => h i (by omega); have := h n (by omega); show 0 <= sm n f + f n; omega
theorem sm_le {n : Nat} {f g : Nat -> Int} (h : ∀ i, i < n -> f i <= g i) : sm n f <= sm n g := by
 induction n with
 | zero => exact Int.le_refl _
 | succ n ih => have := ih fun i hi => h i (by omega); have := h n (by omega); show sm n f + f n <= sm n g + g n; omega
theorem sm_term {n : Nat} {f : Nat -> Int} (h : ∀ i, i < n -> 0 <= f i) {i : Nat} (hi : i < n) : f i <= sm n f := by
 induction n with
 | zero => omega
 | succ n ih =>
  show f i <= sm n f + f n
  have h1 := jP (n := n) (f := f) fun i hi => h i (by omega)
  by_cases e : i = n
  ·subst e; omega
  ·have := ih (fun i hi => h i (by omega)) (by omega)
   have := h n (by omega); omega
theorem iE (x : Vec) : 0 <= ip d x x := jP fun _ _ => gI _
theorem mQ (h : ip d x x = 0) (y : Vec) : ip d x y = 0 := by
 refine d7 fun t ht => ?_
 have h1 : x t * x t <= ip d x x := sm_term (f := fun t => x t * x t) (fun _ _ => gI _) ht
 have h2 := gI (x t)
 have h3 : x t * x t = 0 := by omega
 have h4 : x t = 0 := by rcases Int.mul_eq_zero.mp h3 with z | z <;> exact z
 show x t * y t = 0
 rw [h4, Int.zero_mul]
theorem ip_pos (y : Vec) (h : ip d x y ≠ 0) : 0 < ip d x x := by
 have h1 := iE (d := d) x
 have : ip d x x ≠ 0 := fun z => h (mQ z y)
 omega
theorem mR (k : Nat) (a : Nat -> Int) (w : Nat -> Vec) (y : Vec) : ip d (lc k a w) y = sm k fun i => a i * ip d (w i) y := by
 have e : ip d (lc k a w) y = sm d fun t => sm k fun i => a i * (w i t * y t) := aK fun t _ => by
  show lc k a w t * y t = _
  unfold lc
  rw [<- cV]
  exact aK fun i _ => Int.mul_assoc _ _ _
 rw [e, eO]
 exact aK fun i _ => bT _ _ _
theorem gL (k : Nat) (a : Nat -> Int) (w : Nat -> Vec) (y : Vec) : ip d y (lc k a w) = sm k fun i => a i * ip d y (w i) := by
 rw [dF, mR]
 exact aK fun i _ => by rw [dF]
def mx (p q : Int) (x y : Vec) : Vec := fun t => p * x t + q * y t
theorem iT (p q : Int) (x y z : Vec) : ip d (mx p q x y) z = p * ip d x z + q * ip d y z := by
 unfold ip
 rw [<- bT, <- bT, <- e6]
 exact aK fun t _ => by show (p * x t + q * y t) * z t = _; grind
theorem oQ (p q : Int) (x y : Vec) : ip d (mx p q x y) (mx p q x y) = p * p * ip d x x + 2 * (p * q * ip d x y) + q * q * ip d y y := by
 rw [iT, dF x, dF y, iT, iT, dF y x]; grind
theorem pT (x y : Vec) : ip d x y * ip d x y <= ip d x x * ip d y y := by
 have h := iE (d := d) (mx (ip d y y) (-ip d x y) x y)
 rw [oQ] at h
 have hy := iE (d := d) y
 by_cases z : ip d y y = 0
 ·have := mQ z x
  rw [dF] at this
  rw [this, z]; omega
 ·have hy : 0 < ip d y y := by omega
  have e : ip d y y * ip d y y * ip d x x + 2 * (ip d y y * -ip d x y * ip d x y) + -ip d x y * -ip d x y * ip d y y = ip d y y * (ip d x x * ip d y y - ip d x y * ip d x y) := by grind
  rw [e] at h
  have := Int.nonneg_of_mul_nonneg_right (a := ip d y y) (b := ip d x x * ip d y y - ip d x y * ip d x y) h hy
  omega
end
def gm (d : Nat) (w : Nat -> Vec) : Mat := fun i j => ip d (w i) (w j)
theorem jF (d n : Nat) (w : Nat -> Vec) : Sym n (gm d w) := fun i j _ _ => dF _ _
section
variable {d k n : Nat} {w : Nat -> Vec}
abbrev gD (d k : Nat) (w : Nat -> Vec) : Int := det k (gm d w)
abbrev gN (d k : Nat) (w : Nat -> Vec) : Mat := adj k (gm d w)
abbrev gR (d k : Nat) (w : Nat -> Vec) (i : Nat) : Vec := lc k (gN d k w i) w
theorem gR_ip (hD : gD d k w ≠ 0) {i l : Nat} (hi : i < k) (hl : l < k) : ip d (gR d k w i) (w l) = if i = l then gD d k w else 0 := by
 rw [mR]
 exact gH (jF d k w) hD hi hl
theorem gN_sym (hD : gD d k w ≠ 0) {i j : Nat} (hi : i < k) (hj : j < k) : gN d k w i j = gN d k w j i := pW (jF d k w) hD i j hi hj
theorem oU (hD : gD d k w ≠ 0) {i j : Nat} (hi : i < k) (hj : j < k) : ip d (gR d k w i) (gR d k w j) = gD d k w * gN d k w i j := by
 rw [gL, d8 (k := i) hi fun l hl hne => by rw [gR_ip hD hi hl, if_neg fun z => hne z.symm, Int.mul_zero], gR_ip hD hi hi, if_pos rfl, gN_sym hD hi hj, Int.mul_comm]
theorem gN_pos (hD : 0 < gD d k w) {i : Nat} (hi : i < k) : 0 < gN d k w i i := by
 have hne : gD d k w ≠ 0 := by omega
 have h : 0 < ip d (gR d k w i) (gR d k w i) := ip_pos (w i) (by rw [gR_ip hne hi hi, if_pos rfl]; exact hne)
 rw [oU hne hi hi] at h
 exact Int.pos_of_mul_pos_right h hD
theorem gN_off (hD : 0 < gD d k w) {i j : Nat} (hi : i < k) (hj : j < k) : gN d k w i j * gN d k w i j <= gN d k w i i * gN d k w j j := by
 have hne : gD d k w ≠ 0 := by omega
 have h := pT (d := d) (gR d k w i) (gR d k w j)
 rw [oU hne hi hj, oU hne hi hi, oU hne hj hj] at h
 have e1 : gD d k w * gN d k w i j * (gD d k w * gN d k w i j) = gD d k w * (gD d k w * (gN d k w i j * gN d k w i j)) := by grind
 have e2 : gD d k w * gN d k w i i * (gD d k w * gN d k w j j) = gD d k w * (gD d k w * (gN d k w i i * gN d k w j j)) := by grind
 rw [e1, e2] at h
 exact Int.le_of_mul_le_mul_left (Int.le_of_mul_le_mul_left h hD) hD
theorem pN {i : Nat} : gN d (n + 1) w i i = gD d n (fun a => w (skp i a)) := nV
theorem pO (hD : 0 < gD d (n + 1) w) {i : Nat} (hi : i < n + 1) : 0 < gD d n (fun a => w (skp i a)) := by
 have := gN_pos hD hi
 rw [pN] at this; exact this
theorem gD_lead (hD : 0 < gD d (n + 1) w) : 0 < gD d n w := by
 have := pO hD (i := n) (by omega)
 have e : gD d n (fun a => w (skp n a)) = gD d n w := cY fun a b ha hb => by
  show ip d (w (skp n a)) (w (skp n b)) = _
  rw [i7 ha, i7 hb]; rfl
 rw [e] at this; exact this
theorem img_ip (hne : gD d n w ≠ 0) {l : Nat} (hl : l < n) : ip d (lc n (img n (gN d n w) (fun j => gm d w j n)) w) (w l) = gD d n w * gm d w l n := by
 rw [mR]
 have f1 : sm n (fun i => img n (gN d n w) (fun j => gm d w j n) i * ip d (w i) (w l)) = sm n (fun i => sm n fun j => gN d n w i j * gm d w j n * ip d (w i) (w l)) := aK fun i _ => (cV _ _ _).symm
 rw [f1, eO]
 have f2 : ∀ j, j < n -> sm n (fun i => gN d n w i j * gm d w j n * ip d (w i) (w l)) = gm d w j n * (if j = l then gD d n w else 0) := fun j hj => by
  rw [<- gH (jF d n w) hne hj hl, <- bT]
  refine aK fun i hi => ?_
  rw [gN_sym hne hi hj]
  show _ = gm d w j n * (gN d n w j i * ip d (w i) (w l))
  grind
 rw [aK f2, d8 (k := l) hl fun j _ hne => by rw [if_neg hne, Int.mul_zero], if_pos rfl, Int.mul_comm]
theorem pM (hD : 0 < gD d n w) : gD d (n + 1) w <= gD d n w * ip d (w n) (w n) /\ gD d (n + 1) w = gD d n w * ip d (w n) (w n) - sm n (fun j => gm d w j n * img n (gN d n w) (fun j => gm d w j n) j) := by
 have hne : gD d n w ≠ 0 := by omega
 have e := grow_det (jF d (n + 1) w) hne
 refine ⟨?_, e⟩
 let u : Nat -> Int := img n (gN d n w) (fun j => gm d w j n)
 have hu : ∀ l, l < n -> ip d (lc n u w) (w l) = gD d n w * gm d w l n := fun l hl => img_ip hne hl
 have h := iE (d := d) (lc n u w)
 rw [gL] at h
 have e2 : sm n (fun i => u i * ip d (lc n u w) (w i)) = gD d n w * sm n (fun j => gm d w j n * u j) := by
  rw [<- bT]
  refine aK fun i hi => ?_
  rw [hu i hi]; grind
 rw [e2] at h
 have := Int.nonneg_of_mul_nonneg_right h hD
 show det (n + 1) (gm d w) <= _
 rw [e]
 show gD d n w * ip d (w n) (w n) - sm n (fun j => gm d w j n * u j) <= _
 omega
theorem grow_pos (hD : 0 < gD d n w) {y : Vec} (h0 : ∀ i, i < n -> ip d (w i) y = 0) (h1 : ip d (w n) y ≠ 0) : 0 < gD d (n + 1) w := by
 have hne : gD d n w ≠ 0 := by omega
 let u : Nat -> Int := img n (gN d n w) (fun j => gm d w j n)
 let z : Vec := mx (gD d n w) (-1) (w n) (lc n u w)
 have hz : ip d z y ≠ 0 := by
  show ip d (mx (gD d n w) (-1) (w n) (lc n u w)) y ≠ 0
  rw [iT, mR, d7 fun i hi => by rw [h0 i hi, Int.mul_zero]]
  intro q
  have : gD d n w * ip d (w n) y = 0 := by omega
  rcases Int.mul_eq_zero.mp this with q | q
  ·exact hne q
  ·exact h1 q
 have hp := ip_pos y hz
 have hu : ∀ l, l < n -> ip d (lc n u w) (w l) = gD d n w * gm d w l n := fun l hl => img_ip hne hl
 have e : ip d z z = gD d n w * gD d (n + 1) w := by
  have e1 : ip d (lc n u w) (lc n u w) = gD d n w * sm n (fun j => gm d w j n * u j) := by
   rw [gL, <- bT]
   refine aK fun i hi => ?_
   rw [hu i hi]; grind
  have e2 : ip d (w n) (lc n u w) = sm n (fun j => gm d w j n * u j) := by
   rw [gL]
   refine aK fun i hi => ?_
   rw [dF, Int.mul_comm]; rfl
  show ip d (mx (gD d n w) (-1) (w n) (lc n u w)) (mx (gD d n w) (-1) (w n) (lc n u w)) = _
  rw [oQ, e1, e2, (pM hD).2]
  show _ = gD d n w * (gD d n w * ip d (w n) (w n) - sm n (fun j => gm d w j n * u j))
  generalize sm n (fun j => gm d w j n * u j) = q
  grind
 rw [e] at hp
 exact Int.pos_of_mul_pos_right hp hD
theorem nO {B : Int} (hB : 1 <= B) (hs : ∀ i, ip d (w i) (w i) <= B) : ∀ {n : Nat}, 0 < gD d n w -> gD d n w <= B ^ n
 | 0, _ => by show (1 : Int) <= B ^ 0; rw [Int.pow_zero]; exact Int.le_refl _
 | n + 1, h => by
  have h1 := gD_lead h
  have h2 := (pM h1).1
  have h3 := nO hB hs h1
  have h4 := hs n
  have h5 : gD d n w * ip d (w n) (w n) <= gD d n w * B := Int.mul_le_mul_of_nonneg_left h4 (by omega)
  have h6 : gD d n w * B <= B ^ n * B := Int.mul_le_mul_of_nonneg_right h3 (by omega)
  rw [Int.pow_succ]; omega
theorem gN_bound {B : Int} (hB : 1 <= B) (hs : ∀ i, ip d (w i) (w i) <= B) (h : 0 < gD d (n + 1) w) {i j : Nat} (hi : i < n + 1) (hj : j < n + 1) : -(B ^ n) <= gN d (n + 1) w i j /\ gN d (n + 1) w i j <= B ^ n := by
 have h1 := gN_off h hi hj
 have b : ∀ l, l < n + 1 -> 0 <= gN d (n + 1) w l l /\ gN d (n + 1) w l l <= B ^ n := fun l hl => by
  have q1 := gN_pos h hl
  have q2 : gN d (n + 1) w l l <= B ^ n := by
   rw [pN]
   exact nO hB (w := fun a => w (skp l a)) (fun a => hs _) (pO h hl)
  omega
 have b1 := b i hi
 have b2 := b j hj
 have h2 : gN d (n + 1) w i i * gN d (n + 1) w j j <= B ^ n * B ^ n := Int.mul_le_mul b1.2 b2.2 b2.1 (by omega)
 generalize gN d (n + 1) w i j = g at *
 generalize B ^ n = C at *
 have hC : 0 <= C := by omega
 have h3 : g * g <= C * C := by omega
 constructor
 ·refine Int.not_lt.mp fun q => ?_
  have : (C + 1) * (C + 1) <= (-g) * (-g) := Int.mul_le_mul (by omega) (by omega) (by omega) (by omega)
  rw [Int.neg_mul_neg] at this
  grind
 ·refine Int.not_lt.mp fun q => ?_
  have : (C + 1) * (C + 1) <= g * g := Int.mul_le_mul (by omega) (by omega) (by omega) (by omega)
  grind
end
end Mw
namespace Mw
section
variable {d k : Nat} {w : Nat -> Vec}
def aim (d k : Nat) (w : Nat -> Vec) (i : Nat) : Int := sm k (gN d k w i)
def aV (d k : Nat) (w : Nat -> Vec) : Int := sm k (aim d k w)
abbrev aimZ (d k : Nat) (w : Nat -> Vec) : Vec := lc k (aim d k w) w
theorem iH (hD : gD d k w ≠ 0) {l : Nat} (hl : l < k) : ip d (aimZ d k w) (w l) = gD d k w := by
 rw [mR]
 have f1 : sm k (fun i => aim d k w i * ip d (w i) (w l)) = sm k (fun i => sm k fun j => gN d k w i j * ip d (w i) (w l)) := aK fun i _ => (cV _ _ _).symm
 rw [f1, eO]
 have f2 : ∀ j, j < k -> sm k (fun i => gN d k w i j * ip d (w i) (w l)) = if j = l then gD d k w else 0 := fun j hj => by
  rw [<- gH (jF d k w) hD hj hl]
  refine aK fun i hi => ?_
  rw [gN_sym hD hi hj]; rfl
 rw [aK f2, d8 (k := l) hl fun j _ hne => if_neg hne, if_pos rfl]
theorem pV (hD : gD d k w ≠ 0) (a : Nat -> Int) : ip d (aimZ d k w) (lc k a w) = gD d k w * sm k a := by
 rw [gL, <- bT]
 refine aK fun i hi => ?_
 rw [iH hD hi, Int.mul_comm]
theorem kH (hD : gD d k w ≠ 0) : ip d (aimZ d k w) (aimZ d k w) = gD d k w * aV d k w := pV hD _
theorem jL (hD : 0 < gD d k w) (hk : 0 < k) : 0 < aV d k w := by
 have hne : gD d k w ≠ 0 := by omega
 have h := ip_pos (d := d) (x := aimZ d k w) (w 0) (by rw [iH hne hk]; exact hne)
 rw [kH hne] at h
 exact Int.pos_of_mul_pos_right h hD
theorem aim_best (hD : 0 < gD d k w) (a : Nat -> Int) : gD d k w * (sm k a * sm k a) <= aV d k w * ip d (lc k a w) (lc k a w) := by
 have hne : gD d k w ≠ 0 := by omega
 have h := pT (d := d) (aimZ d k w) (lc k a w)
 rw [pV hne, kH hne] at h
 have e1 : gD d k w * sm k a * (gD d k w * sm k a) = gD d k w * (gD d k w * (sm k a * sm k a)) := by grind
 have e2 : gD d k w * aV d k w * ip d (lc k a w) (lc k a w) = gD d k w * (aV d k w * ip d (lc k a w) (lc k a w)) := by grind
 rw [e1, e2] at h
 exact Int.le_of_mul_le_mul_left h hD
end
theorem nK {k : Nat} {a b : Nat -> Int} {w w' : Nat -> Vec} (h : ∀ i, i < k -> a i = b i) (h' : ∀ i, i < k -> ∀ t, w i t = w' i t) : lc k a w = lc k b w' := by
 funext t
 exact aK fun i hi => by rw [h i hi, h' i hi t]
section
variable {d k : Nat} {w : Nat -> Vec}
def unt (d : Nat) : Vec := fun t => if t = d then 1 else 0
theorem ip_unt (x : Vec) : ip (d + 1) x (unt d) = x d := by
 show sm (d + 1) (fun t => x t * unt d t) = x d
 rw [d8 (k := d) (by omega) fun t _ hne => by show x t * (if t = d then 1 else 0) = 0; rw [if_neg hne, Int.mul_zero]]
 show x d * (if d = d then 1 else 0) = x d
 rw [if_pos rfl, Int.mul_one]
theorem more_pos (h1 : ∀ i, w i d = 1) (hD : 0 < gD (d + 1) k w) (he : ip (d + 1) (aimZ (d + 1) k w) (w k) < gD (d + 1) k w) : 0 < gD (d + 1) (k + 1) w := by
 have hne : gD (d + 1) k w ≠ 0 := by omega
 refine grow_pos hD (y := mx 1 (-gD (d + 1) k w) (aimZ (d + 1) k w) (unt d)) (fun i hi => ?_) ?_
 ·rw [dF, iT, iH hne hi, dF, ip_unt, h1]; omega
 ·rw [dF, iT, dF (unt d), ip_unt, h1]; omega
theorem more_near (h1 : ∀ i, w i d = 1) (hk : 0 < k) (hD : 0 < gD (d + 1) k w) (he : ip (d + 1) (aimZ (d + 1) k w) (w k) < gD (d + 1) k w) :
  gD (d + 1) (k + 1) w * aV (d + 1) k w < gD (d + 1) k w * aV (d + 1) (k + 1) w /\ 0 < aim (d + 1) (k + 1) w k := by
 have hD' := more_pos h1 hD he
 have hne : gD (d + 1) k w ≠ 0 := by omega
 have hne' : gD (d + 1) (k + 1) w ≠ 0 := by omega
 have hT := jL hD hk
 have hT' := jL hD' (by omega)
 have i1 : ∀ i, i < k -> ip (d + 1) (mx (aV (d + 1) k w) (-aV (d + 1) (k + 1) w) (aimZ (d + 1) (k + 1) w) (aimZ (d + 1) k w)) (w i) = aV (d + 1) k w * gD (d + 1) (k + 1) w - aV (d + 1) (k + 1) w * gD (d + 1) k w := fun i hi => by
  rw [iT, iH hne' (by omega), iH hne hi]; grind
 have i2 : ip (d + 1) (mx (aV (d + 1) k w) (-aV (d + 1) (k + 1) w) (aimZ (d + 1) (k + 1) w) (aimZ (d + 1) k w)) (w k) = aV (d + 1) k w * gD (d + 1) (k + 1) w - aV (d + 1) (k + 1) w * ip (d + 1) (aimZ (d + 1) k w) (w k) := by
  rw [iT, iH hne' (by omega)]; grind
 have i3 : ip (d + 1) (aimZ (d + 1) (k + 1) w) (aimZ (d + 1) k w) = gD (d + 1) (k + 1) w * aV (d + 1) k w := by
  rw [gL]
  unfold aV
  rw [<- bT]
  refine aK fun i hi => ?_
  rw [iH hne' (by omega), Int.mul_comm]
 have i4 := oQ (d := d + 1) (aV (d + 1) k w) (-aV (d + 1) (k + 1) w) (aimZ (d + 1) (k + 1) w) (aimZ (d + 1) k w)
 rw [i3, kH hne', kH hne] at i4
 have i5 : ip (d + 1) (mx (aV (d + 1) k w) (-aV (d + 1) (k + 1) w) (aimZ (d + 1) (k + 1) w) (aimZ (d + 1) k w)) (mx (aV (d + 1) k w) (-aV (d + 1) (k + 1) w) (aimZ (d + 1) (k + 1) w) (aimZ (d + 1) k w)) = aV (d + 1) k w * (aV (d + 1) (k + 1) w * aim (d + 1) (k + 1) w k * (gD (d + 1) k w - ip (d + 1) (aimZ (d + 1) k w) (w k))) := by
  have j1 := iT (d := d + 1) (aV (d + 1) k w) (-aV (d + 1) (k + 1) w) (aimZ (d + 1) (k + 1) w) (aimZ (d + 1) k w) (mx (aV (d + 1) k w) (-aV (d + 1) (k + 1) w) (aimZ (d + 1) (k + 1) w) (aimZ (d + 1) k w))
  rw [j1, dF (aimZ (d + 1) (k + 1) w), dF (aimZ (d + 1) k w), gL, gL]
  have j2 : sm (k + 1) (fun i => aim (d + 1) (k + 1) w i * ip (d + 1) (mx (aV (d + 1) k w) (-aV (d + 1) (k + 1) w) (aimZ (d + 1) (k + 1) w) (aimZ (d + 1) k w)) (w i)) = sm k (aim (d + 1) (k + 1) w) * (aV (d + 1) k w * gD (d + 1) (k + 1) w - aV (d + 1) (k + 1) w * gD (d + 1) k w) + aim (d + 1) (k + 1) w k * (aV (d + 1) k w * gD (d + 1) (k + 1) w - aV (d + 1) (k + 1) w * ip (d + 1) (aimZ (d + 1) k w) (w k)) := by
   show sm k _ + aim (d + 1) (k + 1) w k * _ = _
   rw [i2, <- cV, aK fun i hi => by rw [i1 i hi]]
  have j3 : sm k (fun i => aim (d + 1) k w i * ip (d + 1) (mx (aV (d + 1) k w) (-aV (d + 1) (k + 1) w) (aimZ (d + 1) (k + 1) w) (aimZ (d + 1) k w)) (w i)) = aV (d + 1) k w * (aV (d + 1) k w * gD (d + 1) (k + 1) w - aV (d + 1) (k + 1) w * gD (d + 1) k w) := by
   rw [aK fun i hi => by rw [i1 i hi], cV]; rfl
  have j4 : aV (d + 1) (k + 1) w = sm k (aim (d + 1) (k + 1) w) + aim (d + 1) (k + 1) w k := rfl
  rw [j2, j3]
  generalize ip (d + 1) (aimZ (d + 1) k w) (w k) = e at *
  generalize sm k (aim (d + 1) (k + 1) w) = s at *
  generalize aim (d + 1) (k + 1) w k = a at *
  generalize aV (d + 1) k w = T at *
  generalize aV (d + 1) (k + 1) w = T' at *
  generalize gD (d + 1) k w = D at *
  generalize gD (d + 1) (k + 1) w = D' at *
  subst j4
  grind
 have hpos : 0 < ip (d + 1) (mx (aV (d + 1) k w) (-aV (d + 1) (k + 1) w) (aimZ (d + 1) (k + 1) w) (aimZ (d + 1) k w)) (mx (aV (d + 1) k w) (-aV (d + 1) (k + 1) w) (aimZ (d + 1) (k + 1) w) (aimZ (d + 1) k w)) := by
  have h := iE (d := d + 1) (mx (aV (d + 1) k w) (-aV (d + 1) (k + 1) w) (aimZ (d + 1) (k + 1) w) (aimZ (d + 1) k w))
  have hz : ip (d + 1) (mx (aV (d + 1) k w) (-aV (d + 1) (k + 1) w) (aimZ (d + 1) (k + 1) w) (aimZ (d + 1) k w)) (mx (aV (d + 1) k w) (-aV (d + 1) (k + 1) w) (aimZ (d + 1) (k + 1) w) (aimZ (d + 1) k w)) ≠ 0 := fun z => by
   have z1 := mQ z (w 0)
   have z2 := mQ z (w k)
   rw [i1 0 hk] at z1
   rw [i2] at z2
   have z3 : aV (d + 1) (k + 1) w * (gD (d + 1) k w - ip (d + 1) (aimZ (d + 1) k w) (w k)) = 0 := by rw [Int.mul_sub]; omega
   rcases Int.mul_eq_zero.mp z3 with q | q <;> omega
  omega
 constructor
 ·have e : aV (d + 1) k w * aV (d + 1) k w * (gD (d + 1) (k + 1) w * aV (d + 1) (k + 1) w) + 2 * (aV (d + 1) k w * -aV (d + 1) (k + 1) w * (gD (d + 1) (k + 1) w * aV (d + 1) k w)) + -aV (d + 1) (k + 1) w * -aV (d + 1) (k + 1) w * (gD (d + 1) k w * aV (d + 1) k w) = aV (d + 1) k w * (aV (d + 1) (k + 1) w * (gD (d + 1) k w * aV (d + 1) (k + 1) w - gD (d + 1) (k + 1) w * aV (d + 1) k w)) := by grind
  rw [i4, e] at hpos
  have := Int.pos_of_mul_pos_right (Int.pos_of_mul_pos_right hpos hT) hT'
  omega
 ·rw [i5] at hpos
  have q := Int.pos_of_mul_pos_right hpos hT
  rw [Int.mul_assoc] at q
  have q2 := Int.pos_of_mul_pos_right q hT'
  exact Int.pos_of_mul_pos_left q2 (by omega)
end
def Near (d k : Nat) (w : Nat -> Vec) (p r : Int) (a : Nat -> Int) : Prop := ip d (lc k a w) (lc k a w) * r <= p * (sm k a * sm k a)
section
variable {d k : Nat} {w : Nat -> Vec} {p r : Int} {a : Nat -> Int}
theorem lc_mx (k : Nat) (α β : Int) (a b : Nat -> Int) (w : Nat -> Vec) : lc k (fun i => α * a i + β * b i) w = mx α β (lc k a w) (lc k b w) := by
 funext t
 show sm k (fun i => (α * a i + β * b i) * w i t) = α * sm k (fun i => a i * w i t) + β * sm k (fun i => b i * w i t)
 rw [<- bT, <- bT, <- e6]
 exact aK fun i _ => by grind
theorem move_near (hD : 0 < gD d k w) (hT : 0 < aV d k w) (hn : Near d k w p r a) (hS : 0 <= sm k a) (hlt : gD d k w * r < p * aV d k w) {α β : Int} (hα : 0 < α) (hβ : 0 <= β) :
  ip d (lc k (fun i => α * aim d k w i + β * a i) w) (lc k (fun i => α * aim d k w i + β * a i) w) * r < p * (sm k (fun i => α * aim d k w i + β * a i) * sm k (fun i => α * aim d k w i + β * a i)) := by
 have hne : gD d k w ≠ 0 := by omega
 have e1 : sm k (fun i => α * aim d k w i + β * a i) = α * aV d k w + β * sm k a := by
  rw [e6, bT, bT]; rfl
 rw [lc_mx, oQ, e1, kH hne, pV hne]
 unfold Near at hn
 generalize ip d (lc k a w) (lc k a w) = Y at *
 generalize aV d k w = T at *
 generalize gD d k w = D at *
 generalize sm k a = S at *
 have f1 : α * α * T * (D * r) < α * α * T * (p * T) := Int.mul_lt_mul_of_pos_left hlt (Int.mul_pos (Int.mul_pos hα hα) hT)
 have f2 : β * β * (Y * r) <= β * β * (p * (S * S)) := Int.mul_le_mul_of_nonneg_left hn (Int.mul_nonneg hβ hβ)
 have f3 : 2 * α * β * S * (D * r) <= 2 * α * β * S * (p * T) := Int.mul_le_mul_of_nonneg_left (Int.le_of_lt hlt) (Int.mul_nonneg (Int.mul_nonneg (Int.mul_nonneg (by decide) (by omega)) hβ) hS)
 grind
theorem best_lt (hD : 0 < gD d k w) (hT : 0 < aV d k w) (hr : 0 < r) (hS : 0 < sm k a) (h : ip d (lc k a w) (lc k a w) * r < p * (sm k a * sm k a)) : gD d k w * r < p * aV d k w := by
 have hb := aim_best hD a
 generalize ip d (lc k a w) (lc k a w) = Y at *
 generalize aV d k w = T at *
 generalize gD d k w = D at *
 generalize sm k a = S at *
 have hSS : 0 < S * S := Int.mul_pos hS hS
 have f1 : D * (S * S) * r <= T * Y * r := Int.mul_le_mul_of_nonneg_right hb (by omega)
 have f2 : T * (Y * r) < T * (p * (S * S)) := Int.mul_lt_mul_of_pos_left h hT
 have f3 : D * r * (S * S) < p * T * (S * S) := by grind
 exact Int.lt_of_mul_lt_mul_right f3 (by omega)
end
end Mw
namespace Mw
theorem mK : ∀ (l : List Int), sm l.length (fun i => l.getD i 0) = l.sum
 | [] => rfl
 | a :: l => by
  rw [List.length_cons, pC, List.sum_cons, <- mK l]
  rfl
theorem n4 (f : Nat -> Int) (n : Nat) : ((List.range n).map f).sum = sm n f := by
 induction n with
 | zero => rfl
 | succ n ih => rw [List.range_succ, List.map_append, List.sum_append, ih]; show sm n f + (f n + 0) = sm n f + f n; omega
theorem sm_zip {α : Type} (f : Int -> α -> Int) (z : α) : ∀ (a : List Int) (x : List α), a.length = x.length -> sm x.length (fun i => f (a.getD i 0) (x.getD i z)) = (List.zipWith f a x).sum
 | [], [], _ => rfl
 | a :: as, x :: xs, h => by
  rw [List.length_cons, pC, List.zipWith_cons_cons, List.sum_cons, <- sm_zip f z as xs (by simpa using h)]
  rfl
def lfv (d : Nat) (x : List Int) : Vec := fun t => if t = d then 1 else x.getD t 0
theorem iG : ∀ (x y : List Int), x.length = y.length -> dot x y = sm x.length (fun t => x.getD t 0 * y.getD t 0)
 | [], [], _ => rfl
 | a :: x, b :: y, h => by
  rw [List.length_cons, pC]
  show (List.zipWith (· * ·) (a :: x) (b :: y)).sum = _
  rw [List.zipWith_cons_cons, List.sum_cons]
  show a * b + dot x y = _
  rw [iG x y (by simpa using h)]
  rfl
theorem lfv_ip {d : Nat} {x y : List Int} (hx : x.length = d) (hy : y.length = d) : ip (d + 1) (lfv d x) (lfv d y) = dot x y + 1 := by
 show sm d (fun t => lfv d x t * lfv d y t) + lfv d x d * lfv d y d = _
 have e : lfv d x d * lfv d y d = 1 := by unfold lfv; rw [if_pos rfl, if_pos rfl]; rfl
 rw [e, iG x y (by omega), hx]
 congr 1
 refine aK fun t ht => ?_
 unfold lfv
 rw [if_neg (by omega), if_neg (by omega)]
def ws (d : Nat) (xs : List (List Int)) : Nat -> Vec := fun i => lfv d (xs.getD i [])
theorem o0 (d : Nat) (xs : List (List Int)) (i : Nat) : ws d xs i d = 1 := if_pos rfl
abbrev cD (d : Nat) (xs : List (List Int)) : Int := gD (d + 1) xs.length (ws d xs)
abbrev cN (d : Nat) (xs : List (List Int)) : Mat := gN (d + 1) xs.length (ws d xs)
def cJ (d : Nat) (xs : List (List Int)) : List (List Int) := (List.range xs.length).map fun i => (List.range xs.length).map fun j => cN d xs i j
def aO (d : Nat) (xs : List (List Int)) : List Int := (List.range xs.length).map (aim (d + 1) xs.length (ws d xs))
theorem aimL_flat (d : Nat) (xs : List (List Int)) : (cJ d xs).map List.sum = aO d xs := by
 unfold cJ aO
 rw [List.map_map]
 refine List.map_congr_left fun i _ => ?_
 show ((List.range xs.length).map fun j => cN d xs i j).sum = _
 rw [n4]; rfl
theorem dQ (d : Nat) (xs : List (List Int)) : (aO d xs).length = xs.length := by unfold aO; simp
theorem gG (d : Nat) (xs : List (List Int)) : (aO d xs).sum = aV (d + 1) xs.length (ws d xs) := n4 _ _
theorem kW {d : Nat} {xs : List (List Int)} {i : Nat} (h : i < xs.length) : (aO d xs).getD i 0 = aim (d + 1) xs.length (ws d xs) i := by
 unfold aO
 rw [List.getD_eq_getElem?_getD, List.getElem?_map, List.getElem?_range h]; rfl
theorem gX (d : Nat) (xs : List (List Int)) : (cJ d xs).length = xs.length := by unfold cJ; simp
theorem m6 {d : Nat} {xs : List (List Int)} {i : Nat} (h : i < xs.length) : (cJ d xs)[i]? = some ((List.range xs.length).map fun j => cN d xs i j) := by
 unfold cJ
 rw [List.getElem?_map, List.getElem?_range h]; rfl
def Dim (d : Nat) (xs : List (List Int)) : Prop := ∀ x ∈ xs, x.length = d
theorem Dim.get {d : Nat} {xs : List (List Int)} (h : Dim d xs) {i : Nat} (hi : i < xs.length) : (xs.getD i []).length = d := by
 rw [List.getD_eq_getElem?_getD, List.getElem?_eq_getElem hi]; exact h _ (List.getElem_mem hi)
theorem gm_ws {d : Nat} {xs : List (List Int)} (h : Dim d xs) {i j : Nat} (hi : i < xs.length) (hj : j < xs.length) : gm (d + 1) (ws d xs) i j = dot (xs.getD i []) (xs.getD j []) + 1 := lfv_ip (h.get hi) (h.get hj)
theorem pP {α : Type} (f g : α -> Int) : ∀ (l : List α), dot (l.map f) (l.map g) = (l.map fun x => f x * g x).sum
 | [] => rfl
 | x :: l => by
  show (List.zipWith (· * ·) (f x :: l.map f) (g x :: l.map g)).sum = _
  rw [List.zipWith_cons_cons, List.sum_cons, List.map_cons, List.sum_cons, <- pP f g l]; rfl
section
variable {d : Nat} {xs : List (List Int)} {v : List Int}
def gF (xs : List (List Int)) (v : List Int) : List Int := xs.map fun x => dot x v + 1
def bU (d : Nat) (xs : List (List Int)) (v : List Int) : List Int := (cJ d xs).map fun line => dot line (gF xs v)
theorem ws_app {i : Nat} (h : i < xs.length) : ws d (xs ++ [v]) i = ws d xs i := by
 unfold ws
 rw [List.getD_eq_getElem?_getD, List.getElem?_append_left h, <- List.getD_eq_getElem?_getD]
theorem lX : (xs ++ [v]).getD xs.length [] = v := by
 rw [List.getD_eq_getElem?_getD, List.getElem?_append_right (Nat.le_refl _)]; simp
theorem gm_app {i j : Nat} (hi : i < xs.length) (hj : j < xs.length) : gm (d + 1) (ws d (xs ++ [v])) i j = gm (d + 1) (ws d xs) i j := by
 unfold gm; rw [ws_app hi, ws_app hj]
theorem kG : gD (d + 1) xs.length (ws d (xs ++ [v])) = cD d xs := cY fun a b ha hb => gm_app ha hb
theorem cN_app {i j : Nat} (hi : i < xs.length) (hj : j < xs.length) : gN (d + 1) xs.length (ws d (xs ++ [v])) i j = cN d xs i j := adj_congr (fun a b ha hb => gm_app ha hb) hi hj
theorem Dim.app (h : Dim d xs) (hv : v.length = d) : Dim d (xs ++ [v]) := fun x hx => by
 rcases List.mem_append.mp hx with z | z
 ·exact h x z
 ·rw [List.mem_singleton.mp z]; exact hv
theorem col_app (h : Dim d xs) (hv : v.length = d) {j : Nat} (hj : j < xs.length) : gm (d + 1) (ws d (xs ++ [v])) j xs.length = dot (xs.getD j []) v + 1 := by
 rw [gm_ws (h.app hv) (by simp; omega) (by simp), lX, List.getD_eq_getElem?_getD, List.getElem?_append_left hj, <- List.getD_eq_getElem?_getD]
theorem colL_eq (h : Dim d xs) (hv : v.length = d) : gF xs v = (List.range xs.length).map fun j => gm (d + 1) (ws d (xs ++ [v])) j xs.length := by
 unfold gF
 refine List.ext_getElem (by simp) fun i h1 h2 => ?_
 rw [List.getElem_map, List.getElem_map, List.getElem_range]
 have hi : i < xs.length := by simpa using h1
 rw [col_app h hv hi, List.getD_eq_getElem?_getD, List.getElem?_eq_getElem hi]; rfl
theorem imgL_eq (h : Dim d xs) (hv : v.length = d) : bU d xs v = (List.range xs.length).map fun i => img xs.length (gN (d + 1) xs.length (ws d (xs ++ [v]))) (fun j => gm (d + 1) (ws d (xs ++ [v])) j xs.length) i := by
 unfold bU cJ
 rw [List.map_map]
 refine List.map_congr_left fun i hi => ?_
 have hi : i < xs.length := List.mem_range.mp hi
 show dot ((List.range xs.length).map fun j => cN d xs i j) (gF xs v) = _
 rw [colL_eq h hv, pP, n4]
 exact aK fun j hj => by rw [cN_app hi hj]
theorem grown_eq (h : Dim d xs) (hv : v.length = d) (hD : 0 < cD d xs) : cD d (xs ++ [v]) = cD d xs * (dot v v + 1) - dot (gF xs v) (bU d xs v) := by
 have hD' : 0 < gD (d + 1) xs.length (ws d (xs ++ [v])) := by rw [kG]; exact hD
 have e := (pM hD').2
 have el : (xs ++ [v]).length = xs.length + 1 := by simp
 show gD (d + 1) (xs ++ [v]).length (ws d (xs ++ [v])) = _
 rw [el, e, kG, colL_eq h hv, imgL_eq h hv, pP, n4]
 have : ip (d + 1) (ws d (xs ++ [v]) xs.length) (ws d (xs ++ [v]) xs.length) = dot v v + 1 := by
  have := gm_ws (h.app hv) (i := xs.length) (j := xs.length) (by simp) (by simp)
  rw [lX] at this; exact this
 rw [this]
theorem took_eq (h : Dim d xs) (hv : v.length = d) (hD : 0 < cD d xs) (hD' : 0 < cD d (xs ++ [v])) :
  cJ d (xs ++ [v]) = List.zipWith (fun line t => List.zipWith (fun a b => (cD d (xs ++ [v]) * a + t * b) / cD d xs) line (bU d xs v) ++ [-t]) (cJ d xs) (bU d xs v) ++ [(bU d xs v).map (fun z => -z) ++ [cD d xs]] := by
 have el : (xs ++ [v]).length = xs.length + 1 := by simp
 have hDn : gD (d + 1) xs.length (ws d (xs ++ [v])) ≠ 0 := by rw [kG]; omega
 have hD'' : 0 < gD (d + 1) (xs.length + 1) (ws d (xs ++ [v])) := by
  have := hD'; unfold cD at this; rw [el] at this; exact this
 have hDn' : gD (d + 1) (xs.length + 1) (ws d (xs ++ [v])) ≠ 0 := by omega
 have hsym := jF (d + 1) (xs.length + 1) (ws d (xs ++ [v]))
 have il := imgL_eq h hv
 generalize eu : img xs.length (gN (d + 1) xs.length (ws d (xs ++ [v]))) (fun j => gm (d + 1) (ws d (xs ++ [v])) j xs.length) = u at il
 have eD' : cD d (xs ++ [v]) = gD (d + 1) (xs.length + 1) (ws d (xs ++ [v])) := by unfold cD; rw [el]
 have eN : ∀ i j, cN d (xs ++ [v]) i j = gN (d + 1) (xs.length + 1) (ws d (xs ++ [v])) i j := fun i j => by unfold cN; rw [el]
 have rest : ∀ i j, i < xs.length -> j < xs.length -> cN d (xs ++ [v]) i j = (cD d (xs ++ [v]) * cN d xs i j + u i * u j) / cD d xs := fun i j hi hj => by
  have g := grow_rest hsym hDn hDn' hi hj
  rw [<- cN_app hi hj, eD', eN, <- kG (v := v)]
  have eu' : img xs.length (adj xs.length (gm (d + 1) (ws d (xs ++ [v])))) (fun j => gm (d + 1) (ws d (xs ++ [v])) j xs.length) = u := eu
  rw [eu'] at g
  show gN (d + 1) (xs.length + 1) (ws d (xs ++ [v])) i j = (det (xs.length + 1) (gm (d + 1) (ws d (xs ++ [v]))) * adj xs.length (gm (d + 1) (ws d (xs ++ [v]))) i j + u i * u j) / det xs.length (gm (d + 1) (ws d (xs ++ [v])))
  rw [<- g, Int.mul_ediv_cancel_left _ hDn]
 have side : ∀ i, i < xs.length -> cN d (xs ++ [v]) i xs.length = -u i := fun i hi => by
  rw [eN, <- eu]; exact nM hsym hDn hi
 have low : ∀ i, i < xs.length -> cN d (xs ++ [v]) xs.length i = -u i := fun i hi => by
  rw [eN, <- eu]; exact grow_row hsym hDn hDn' hi
 have corner : cN d (xs ++ [v]) xs.length xs.length = cD d xs := by
  rw [eN, <- kG (v := v)]; exact kX
 unfold cJ
 rw [el, List.range_succ, List.map_append]
 congr 1
 ·refine List.ext_getElem (by rw [List.length_zipWith, il]; simp) fun i h1 h2 => ?_
  have hi : i < xs.length := by simpa using h1
  rw [List.getElem_map, List.getElem_range, List.getElem_zipWith, List.getElem_map, List.getElem_range, List.map_append]
  have ei : (bU d xs v)[i]'(by rw [il]; simpa using hi) = u i := by
   have : (bU d xs v)[i]? = some (u i) := by rw [il, List.getElem?_map, List.getElem?_range hi]; rfl
   exact (List.getElem?_eq_some_iff.mp this).2
  congr 1
  ·refine List.ext_getElem (by rw [List.length_zipWith, il]; simp) fun j h3 h4 => ?_
   have hj : j < xs.length := by simpa using h3
   rw [List.getElem_map, List.getElem_range, List.getElem_zipWith, List.getElem_map, List.getElem_range]
   have ej : (bU d xs v)[j]'(by rw [il]; simpa using hj) = u j := by
    have : (bU d xs v)[j]? = some (u j) := by rw [il, List.getElem?_map, List.getElem?_range hj]; rfl
    exact (List.getElem?_eq_some_iff.mp this).2
   have rr := rest i j hi hj
   rw [<- ei, <- ej] at rr
   exact rr
  ·show [cN d (xs ++ [v]) i xs.length] = _
   rw [ei, side i hi]
 ·show [(List.range xs.length ++ [xs.length]).map fun j => cN d (xs ++ [v]) xs.length j] = _
  rw [List.map_append, il, List.map_map]
  congr 2
  ·exact List.map_congr_left fun j hj => low j (List.mem_range.mp hj)
  ·show [cN d (xs ++ [v]) xs.length xs.length] = _
   rw [corner]
end
section
variable {d : Nat} {xs : List (List Int)}
theorem mF {i : Nat} (hi : i < xs.length) : ws d (xs.eraseIdx i) = fun a => ws d xs (skp i a) := by
 funext a
 unfold ws
 rw [List.getD_eq_getElem?_getD, List.getElem?_eraseIdx, List.getD_eq_getElem?_getD]
 unfold skp
 split <;> rfl
theorem nJ {i : Nat} (hi : i < xs.length) : (xs.eraseIdx i).length + 1 = xs.length := by
 rw [List.length_eraseIdx, if_pos hi]; omega
theorem nI (hD : 0 < cD d xs) {i : Nat} (hi : i < xs.length) : 0 < cD d (xs.eraseIdx i) /\ cD d (xs.eraseIdx i) = cN d xs i i := by
 have e := nJ hi
 have hD2 : 0 < gD (d + 1) ((xs.eraseIdx i).length + 1) (ws d xs) := by rw [e]; exact hD
 have := pO hD2 (i := i) (by omega)
 have e2 : cN d xs i i = cD d (xs.eraseIdx i) := by
  show gN (d + 1) xs.length (ws d xs) i i = gD (d + 1) (xs.eraseIdx i).length (ws d (xs.eraseIdx i))
  rw [<- e, pN, mF hi]
 refine ⟨?_, e2.symm⟩
 show 0 < gD (d + 1) (xs.eraseIdx i).length (ws d (xs.eraseIdx i))
 rw [mF hi]; exact this
theorem less_eq (hD : 0 < cD d xs) {i : Nat} (hi : i < xs.length) {a b : Nat} (ha : a < (xs.eraseIdx i).length) (hb : b < (xs.eraseIdx i).length) :
  cN d (xs.eraseIdx i) a b = (cD d (xs.eraseIdx i) * cN d xs (skp i a) (skp i b) + -cN d xs (skp i a) i * cN d xs i (skp i b)) / cD d xs := by
 have e := nJ hi
 have hp := (nI hD hi).1
 have hne : cD d xs ≠ 0 := by omega
 have r := less_rest (n := (xs.eraseIdx i).length) (M := gm (d + 1) (ws d xs)) (i := i) (jF _ _ _) (by rw [e]; exact hne) (by omega) (by
  show det (xs.eraseIdx i).length (gm (d + 1) fun a => ws d xs (skp i a)) ≠ 0
  rw [<- mF hi]
  show cD d (xs.eraseIdx i) ≠ 0
  omega) ha hb
 rw [e] at r
 have e1 : minor (gm (d + 1) (ws d xs)) i i = gm (d + 1) (ws d (xs.eraseIdx i)) := by rw [mF hi]; rfl
 rw [e1] at r
 have r' : cD d xs * cN d (xs.eraseIdx i) a b = cD d (xs.eraseIdx i) * cN d xs (skp i a) (skp i b) + -cN d xs (skp i a) i * cN d xs i (skp i b) := by
  have : cD d xs * cN d (xs.eraseIdx i) a b = cD d (xs.eraseIdx i) * cN d xs (skp i a) (skp i b) - cN d xs (skp i a) i * cN d xs i (skp i b) := r
  rw [this]; grind
 rw [<- r', Int.mul_ediv_cancel_left _ hne]
theorem jV {α : Type} {l : List α} {i a : Nat} : (l.eraseIdx i)[a]? = l[skp i a]? := by
 rw [List.getElem?_eraseIdx]
 unfold skp
 split <;> rfl
theorem less_tab (hD : 0 < cD d xs) {i : Nat} (hi : i < xs.length) : cJ d (xs.eraseIdx i) = ((cJ d xs).eraseIdx i).map fun line => (List.zipWith (fun a b => (cD d (xs.eraseIdx i) * a + -line.getD i 0 * b) / cD d xs) line ((List.range xs.length).map fun j => cN d xs i j)).eraseIdx i := by
 have e := nJ hi
 refine List.ext_getElem? fun a => ?_
 rw [List.getElem?_map, jV]
 by_cases ha : a < (xs.eraseIdx i).length
 ·have ha' : skp i a < xs.length := by rw [<- e]; exact dI ha (by omega)
  rw [m6 ha, m6 ha', Option.map_some]
  congr 1
  refine List.ext_getElem? fun b => ?_
  rw [jV, List.getElem?_zipWith, List.getElem?_map, List.getElem?_map, List.getElem?_map]
  by_cases hb : b < (xs.eraseIdx i).length
  ·have hb' : skp i b < xs.length := by rw [<- e]; exact dI hb (by omega)
   rw [List.getElem?_range hb, List.getElem?_range hb', Option.map_some, Option.map_some, Option.map_some]
   show some _ = some _
   congr 1
   have eg : ((List.range xs.length).map fun j => cN d xs (skp i a) j).getD i 0 = cN d xs (skp i a) i := by
    rw [List.getD_eq_getElem?_getD, List.getElem?_map, List.getElem?_range hi]; rfl
   rw [eg]
   exact less_eq hD hi ha hb
  ·have hb' : ¬ skp i b < xs.length := by
    unfold skp; split <;> omega
   rw [List.getElem?_eq_none (by simpa using hb), List.getElem?_eq_none (by simpa using hb')]; rfl
 ·have ha' : ¬ skp i a < xs.length := by
   unfold skp; split <;> omega
  rw [List.getElem?_eq_none (by rw [gX]; omega), List.getElem?_eq_none (by rw [gX]; omega)]; rfl
end
end Mw
namespace Mw
def fe (ts as : List Int) : Nat -> Nat
 | 0 => 0
 | n + 1 => if as.getD (n + 1) 0 * ts.getD (fe ts as n) 0 < as.getD (fe ts as n) 0 * ts.getD (n + 1) 0 then n + 1 else fe ts as n
theorem fe_ok {ts as : List Int} {k : Nat} (nn : ∀ i, i < k -> 0 <= ts.getD i 0) (z : ∀ i, i < k -> ts.getD i 0 = 0 -> 0 < as.getD i 0) (f0 : 0 < ts.getD 0 0) :
  ∀ {n : Nat}, n < k -> fe ts as n <= n /\ 0 < ts.getD (fe ts as n) 0 /\ ∀ i, i <= n -> as.getD (fe ts as n) 0 * ts.getD i 0 <= as.getD i 0 * ts.getD (fe ts as n) 0
 | 0, h => ⟨Nat.le_refl _, f0, fun i hi => by
   have : i = 0 := by omega
   subst this; exact Int.le_refl _⟩
 | n + 1, h => by
  obtain ⟨h1, h2, h3⟩ := fe_ok nn z f0 (n := n) (by omega)
  by_cases c : as.getD (n + 1) 0 * ts.getD (fe ts as n) 0 < as.getD (fe ts as n) 0 * ts.getD (n + 1) 0
  ·have e : fe ts as (n + 1) = n + 1 := if_pos c
   rw [e]
   have q1 := nn (n + 1) h
   have q2 : 0 < ts.getD (n + 1) 0 := by
    by_cases w : ts.getD (n + 1) 0 = 0
    ·have q3 := z _ h w
     rw [w, Int.mul_zero] at c
     have := Int.mul_pos q3 h2
     omega
    ·omega
   refine ⟨Nat.le_refl _, q2, fun i hi => ?_⟩
   by_cases ei : i = n + 1
   ·subst ei; exact Int.le_refl _
   ·have q4 := h3 i (by omega)
    have q5 := nn i (by omega)
    generalize ts.getD (fe ts as n) 0 = F at *
    generalize as.getD (fe ts as n) 0 = G at *
    generalize ts.getD (n + 1) 0 = T at *
    generalize as.getD (n + 1) 0 = A at *
    generalize ts.getD i 0 = x at *
    generalize as.getD i 0 = y at *
    have r1 : A * F * x <= G * T * x := Int.mul_le_mul_of_nonneg_right (Int.le_of_lt c) q5
    have r2 : G * x * T <= y * F * T := Int.mul_le_mul_of_nonneg_right q4 (Int.le_of_lt q2)
    have r3 : A * x * F <= y * T * F := by grind
    exact Int.le_of_mul_le_mul_right r3 h2
  ·have e : fe ts as (n + 1) = fe ts as n := if_neg c
   rw [e]
   refine ⟨by omega, h2, fun i hi => ?_⟩
   by_cases ei : i = n + 1
   ·subst ei; omega
   ·exact h3 i (by omega)
def cM (ts as : List Int) : List Int := List.zipWith (fun t a => ts.getD (fe ts as (ts.length - 1)) 0 * a - as.getD (fe ts as (ts.length - 1)) 0 * t) ts as
theorem qR {ts as : List Int} (h : ts.length = as.length) : (cM ts as).length = ts.length := by unfold cM; rw [List.length_zipWith]; omega
theorem qS {ts as : List Int} (h : ts.length = as.length) {i : Nat} (hi : i < ts.length) : (cM ts as).getD i 0 = ts.getD (fe ts as (ts.length - 1)) 0 * as.getD i 0 - as.getD (fe ts as (ts.length - 1)) 0 * ts.getD i 0 := by
 unfold cM
 rw [List.getD_eq_getElem?_getD, List.getElem?_zipWith, List.getElem?_eq_getElem hi, List.getElem?_eq_getElem (show i < as.length by omega)]
 rw [List.getD_eq_getElem?_getD (i := i), List.getD_eq_getElem?_getD (i := i), List.getElem?_eq_getElem hi, List.getElem?_eq_getElem (show i < as.length by omega)]
 rfl
def kept {α : Type} : List α -> List Int -> List α
 | x :: xs, e :: es => if e = 0 then kept xs es else x :: kept xs es
 | _, _ => []
theorem nL {α β : Type} (f : α -> β) : ∀ (xs : List α) (es : List Int), kept (xs.map f) es = (kept xs es).map f
 | [], _ => rfl
 | _ :: _, [] => rfl
 | x :: xs, e :: es => by
  show (if e = 0 then kept (xs.map f) es else f x :: kept (xs.map f) es) = (if e = 0 then kept xs es else x :: kept xs es).map f
  rw [nL f xs es]
  split <;> rfl
theorem jE {α : Type} : ∀ {xs : List α} {es : List Int} {x : α}, x ∈ kept xs es -> x ∈ xs
 | [], _, _, h => by simp [kept] at h
 | _ :: _, [], _, h => by simp [kept] at h
 | x :: xs, e :: es, y, h => by
  have h' : y ∈ (if e = 0 then kept xs es else x :: kept xs es) := h
  split at h'
  ·exact List.mem_cons_of_mem _ (jE h')
  ·rcases List.mem_cons.mp h' with z | z
   ·rw [z]; exact List.mem_cons_self ..
   ·exact List.mem_cons_of_mem _ (jE z)
theorem kept_len {α : Type} : ∀ {xs : List α} {es : List Int}, xs.length = es.length -> (es.filter (· ≠ 0)).length = (kept xs es).length
 | [], [], _ => rfl
 | x :: xs, e :: es, h => by
  have ih := kept_len (xs := xs) (es := es) (by simpa using h)
  show _ = (if e = 0 then kept xs es else x :: kept xs es).length
  by_cases z : e = 0
  ·rw [if_pos z, List.filter_cons_of_neg (by simpa using z)]; exact ih
  ·rw [if_neg z, List.filter_cons_of_pos (by simpa using z), List.length_cons, List.length_cons, ih]
theorem kept_le {α : Type} : ∀ {xs : List α} {es : List Int}, (kept xs es).length <= xs.length
 | [], _ => Nat.le_refl _
 | _ :: _, [] => Nat.zero_le _
 | x :: xs, e :: es => by
  have ih := kept_le (xs := xs) (es := es)
  show (if e = 0 then kept xs es else x :: kept xs es).length <= _
  split
  ·rw [List.length_cons]; omega
  ·rw [List.length_cons, List.length_cons]; omega
theorem kept_lt {α : Type} : ∀ {xs : List α} {es : List Int} {i : Nat}, i < xs.length -> es[i]? = some 0 -> (kept xs es).length < xs.length
 | [], _, _, h, _ => by simp at h
 | _ :: _, [], _, _, h => by simp at h
 | x :: xs, e :: es, 0, _, h => by
  have : e = 0 := by simpa using h
  show (if e = 0 then kept xs es else x :: kept xs es).length < _
  rw [if_pos this, List.length_cons]
  have := kept_le (xs := xs) (es := es); omega
 | x :: xs, e :: es, i + 1, h1, h => by
  have ih := kept_lt (xs := xs) (es := es) (i := i) (by simpa using h1) (by simpa using h)
  show (if e = 0 then kept xs es else x :: kept xs es).length < _
  split
  ·rw [List.length_cons]; omega
  ·rw [List.length_cons, List.length_cons]; omega
theorem kept_sum {α : Type} {f : Int -> α -> Int} (h0 : ∀ x, f 0 x = 0) : ∀ (xs : List α) (es : List Int), xs.length = es.length -> (List.zipWith f (es.filter (· ≠ 0)) (kept xs es)).sum = (List.zipWith f es xs).sum
 | [], [], _ => rfl
 | x :: xs, e :: es, h => by
  have ih := kept_sum h0 xs es (by simpa using h)
  have e1 : kept (x :: xs) (e :: es) = if e = 0 then kept xs es else x :: kept xs es := rfl
  rw [e1, List.zipWith_cons_cons, List.sum_cons, <- ih]
  by_cases z : e = 0
  ·rw [if_pos z, List.filter_cons_of_neg (by simpa using z), z, h0]; omega
  ·rw [if_neg z, List.filter_cons_of_pos (by simpa using z), List.zipWith_cons_cons, List.sum_cons]
def cR {α : Type} (i : Nat) (xs : List α) (es : List Int) : List α := xs.take i ++ kept (xs.drop i) (es.drop i)
theorem qH {α : Type} (xs : List α) (es : List Int) (h : xs.length = es.length) : cR xs.length xs es = xs := by
 unfold cR
 rw [List.take_length, List.drop_length]; show xs ++ kept [] _ = xs; unfold kept; exact List.append_nil _
theorem oI {α : Type} (xs : List α) (es : List Int) : cR 0 xs es = kept xs es := by
 unfold cR; rfl
theorem oJ {α : Type} {xs : List α} {es : List Int} {i : Nat} {e : Int} (hi : i < xs.length) (he : es[i]? = some e) (h : e ≠ 0) : cR i xs es = cR (i + 1) xs es := by
 have hl := (List.getElem?_eq_some_iff.mp he)
 unfold cR
 rw [List.drop_eq_getElem_cons hi, List.drop_eq_getElem_cons hl.1, hl.2]
 show xs.take i ++ (if e = 0 then _ else xs[i] :: kept (xs.drop (i + 1)) (es.drop (i + 1))) = _
 rw [if_neg h, List.take_succ_eq_append_getElem hi, List.append_assoc]; rfl
theorem oK {α : Type} {xs : List α} {es : List Int} {i : Nat} (hi : i < xs.length) (he : es[i]? = some 0) : cR i xs es = (cR (i + 1) xs es).eraseIdx i := by
 have hl := (List.getElem?_eq_some_iff.mp he)
 unfold cR
 rw [List.drop_eq_getElem_cons hi, List.drop_eq_getElem_cons hl.1, hl.2]
 show xs.take i ++ (if (0 : Int) = 0 then kept (xs.drop (i + 1)) (es.drop (i + 1)) else _) = _
 rw [if_pos rfl, List.take_succ_eq_append_getElem hi, List.append_assoc, List.eraseIdx_append_of_length_le (by rw [List.length_take]; omega)]
 have : i - (xs.take i).length = 0 := by rw [List.length_take]; omega
 rw [this]; rfl
theorem qG {α : Type} {xs : List α} {es : List Int} {i : Nat} (hi : i < xs.length) : i < (cR (i + 1) xs es).length := by
 unfold cR
 rw [List.length_append, List.length_take]; omega
theorem partK_map {α β : Type} (f : α -> β) (i : Nat) (xs : List α) (es : List Int) : cR i (xs.map f) es = (cR i xs es).map f := by
 unfold cR
 rw [List.map_append, <- nL, List.map_take, List.map_drop]
theorem lO {d : Nat} {xs : List (List Int)} {es : List Int} (h : xs.length = es.length) (hD : 0 < cD d xs) : ∀ {n i : Nat}, i + n = xs.length -> 0 < cD d (cR i xs es)
 | 0, i, e => by
  have : i = xs.length := by omega
  rw [this, qH xs es h]; exact hD
 | n + 1, i, e => by
  have ih := lO h hD (n := n) (i := i + 1) (by omega)
  have hi : i < xs.length := by omega
  have hi2 : i < es.length := by omega
  by_cases z : es[i] = 0
  ·rw [oK hi (by rw [List.getElem?_eq_getElem hi2, z])]
   exact (nI ih (qG hi)).1
  ·rw [oJ hi (List.getElem?_eq_getElem hi2) z]; exact ih
theorem kept_pos {d : Nat} {xs : List (List Int)} {es : List Int} (h : xs.length = es.length) (hD : 0 < cD d xs) : 0 < cD d (kept xs es) := by
 rw [<- oI]; exact lO h hD (n := xs.length) (by omega)
abbrev lcL (d : Nat) (ts : List Int) (xs : List (List Int)) : Vec := lc xs.length (fun i => ts.getD i 0) (ws d xs)
theorem lV {d : Nat} {ts : List Int} {xs : List (List Int)} (h : ts.length = xs.length) (t : Nat) : lcL d ts xs t = (List.zipWith (fun a x => a * lfv d x t) ts xs).sum := sm_zip (fun a x => a * lfv d x t) [] ts xs h
theorem lI {ts : List Int} {xs : List (List Int)} (h : ts.length = xs.length) : sm xs.length (fun i => ts.getD i 0) = ts.sum := by rw [<- h]; exact mK ts
theorem oV : ∀ (es : List Int), (es.filter (· ≠ 0)).sum = es.sum
 | [] => rfl
 | e :: es => by
  have ih := oV es
  by_cases z : e = 0
  ·rw [List.filter_cons_of_neg (by simpa using z), List.sum_cons, ih, z]; omega
  ·rw [List.filter_cons_of_pos (by simpa using z), List.sum_cons, List.sum_cons, ih]
structure ArrOk (d : Nat) (p r : Int) (xs : List (List Int)) (ts : List Int) : Prop where
 dim : Dim d xs
 pos : 0 < cD d xs
 ne : 0 < xs.length
 len : ts.length = xs.length
 nn : ∀ i, i < xs.length -> 0 <= ts.getD i 0
 z : ∀ i, i < xs.length -> ts.getD i 0 = 0 -> 0 < (aO d xs).getD i 0
 fst : 0 < ts.getD 0 0
 rpos : 0 < r
 near : ip (d + 1) (lcL d ts xs) (lcL d ts xs) * r <= p * (ts.sum * ts.sum)
 lt : cD d xs * r < p * (aO d xs).sum
theorem iA {l : List Int} (h : ∀ x ∈ l, 0 < x) {i : Nat} (hi : i < l.length) : 0 < l.getD i 0 := by
 rw [List.getD_eq_getElem?_getD, List.getElem?_eq_getElem hi]; exact h _ (List.getElem_mem hi)
theorem ArrOk.step {d : Nat} {p r : Int} {xs : List (List Int)} {ts : List Int} (o : ArrOk d p r xs ts) (hn : ¬ ∀ a ∈ aO d xs, 0 < a) :
  ArrOk d p r (kept xs (cM ts (aO d xs))) ((cM ts (aO d xs)).filter (· ≠ 0)) /\ (kept xs (cM ts (aO d xs))).length < xs.length := by
 have hla : (aO d xs).length = xs.length := dQ d xs
 have hl1 : ts.length = (aO d xs).length := by rw [hla]; exact o.len
 have hlt := o.len
 obtain ⟨f1, f2, f3⟩ := fe_ok (as := aO d xs) o.nn o.z o.fst (n := ts.length - 1) (by have := o.ne; omega)
 have hfk : fe ts (aO d xs) (ts.length - 1) < xs.length := by have := o.ne; omega
 -- beta is not below 0
 have hβ : (aO d xs).getD (fe ts (aO d xs) (ts.length - 1)) 0 <= 0 := by
  refine Int.not_lt.mp fun q => hn fun a ha => ?_
  obtain ⟨i, hi⟩ := List.getElem?_of_mem ha
  have hil := (List.getElem?_eq_some_iff.mp hi).1
  have ei : (aO d xs).getD i 0 = a := by rw [List.getD_eq_getElem?_getD, hi]; rfl
  have q2 := f3 i (by omega)
  have q3 := o.nn i (by omega)
  by_cases w : ts.getD i 0 = 0
  ·rw [<- ei]; exact o.z i (by omega) w
  ·have q4 : 0 < ts.getD i 0 := by omega
   have q5 := Int.mul_pos q q4
   rw [<- ei]
   exact Int.pos_of_mul_pos_left (Int.lt_of_lt_of_le q5 q2) f2
 have he : ∀ i, i < xs.length -> (cM ts (aO d xs)).getD i 0 = ts.getD (fe ts (aO d xs) (ts.length - 1)) 0 * (aO d xs).getD i 0 - (aO d xs).getD (fe ts (aO d xs) (ts.length - 1)) 0 * ts.getD i 0 := fun i hi => qS hl1 (by omega)
 have hel : (cM ts (aO d xs)).length = xs.length := by rw [qR hl1]; exact o.len
 have hnn : ∀ i, i < xs.length -> 0 <= (cM ts (aO d xs)).getD i 0 := fun i hi => by
  rw [he i hi, Int.mul_comm (ts.getD (fe ts (aO d xs) (ts.length - 1)) 0)]
  have := f3 i (by omega)
  omega
 have hzero : (cM ts (aO d xs))[fe ts (aO d xs) (ts.length - 1)]? = some 0 := by
  have h1 : fe ts (aO d xs) (ts.length - 1) < (cM ts (aO d xs)).length := by omega
  have h2 := he _ hfk
  rw [List.getD_eq_getElem?_getD, List.getElem?_eq_getElem h1] at h2
  rw [List.getElem?_eq_getElem h1]
  have h3 : (cM ts (aO d xs))[fe ts (aO d xs) (ts.length - 1)] = _ := h2
  rw [h3]; congr 1; grind
 generalize hE : cM ts (aO d xs) = es at *
 generalize hα : ts.getD (fe ts (aO d xs) (ts.length - 1)) 0 = α at *
 generalize hβ' : (aO d xs).getD (fe ts (aO d xs) (ts.length - 1)) 0 = β at *
 have hT : 0 < aV (d + 1) xs.length (ws d xs) := jL o.pos o.ne
 have hlen : xs.length = es.length := hel.symm
 -- the move
 have efun : ∀ i, i < xs.length -> es.getD i 0 = α * aim (d + 1) xs.length (ws d xs) i + -β * ts.getD i 0 := fun i hi => by
  rw [he i hi, kW hi]; grind
 have hsum : sm xs.length (fun i => es.getD i 0) = es.sum := lI hel
 have hS : 0 <= sm xs.length (fun i => ts.getD i 0) := jP fun i hi => o.nn i hi
 have hnear : Near (d + 1) xs.length (ws d xs) p r (fun i => ts.getD i 0) := by
  have := o.near
  unfold Near
  rw [lI o.len]; exact this
 have mv := move_near (a := fun i => ts.getD i 0) o.pos hT hnear hS (by have := o.lt; rw [gG] at this; exact this) f2 (show 0 <= -β by omega)
 have e1 : lc xs.length (fun i => α * aim (d + 1) xs.length (ws d xs) i + -β * ts.getD i 0) (ws d xs) = lcL d es xs := nK (fun i hi => (efun i hi).symm) (fun i _ t => rfl)
 have e2 : sm xs.length (fun i => α * aim (d + 1) xs.length (ws d xs) i + -β * ts.getD i 0) = es.sum := by
  rw [<- hsum]; exact aK fun i hi => (efun i hi).symm
 rw [e1, e2] at mv
 have hsp : 0 < es.sum := by
  rw [<- e2, e6, bT, bT]
  have q1 : 0 < α * sm xs.length (aim (d + 1) xs.length (ws d xs)) := Int.mul_pos f2 hT
  have q2 : 0 <= -β * sm xs.length (fun i => ts.getD i 0) := Int.mul_nonneg (by omega) hS
  omega
 -- those left
 have hl2 := kept_len (xs := xs) (es := es) hlen
 have hpos2 := kept_pos hlen o.pos
 have hs2 : (es.filter (· ≠ 0)).sum = es.sum := oV es
 have e3 : lcL d (es.filter (· ≠ 0)) (kept xs es) = lcL d es xs := by
  funext t
  rw [lV hl2, lV hel]
  exact kept_sum (f := fun a x => a * lfv d x t) (fun x => Int.zero_mul _) xs es hlen
 have hne2 : 0 < (kept xs es).length := by
  rw [<- hl2]
  refine Nat.pos_of_ne_zero fun q => ?_
  have : es.filter (· ≠ 0) = [] := List.length_eq_zero_iff.mp q
  rw [this] at hs2
  have : (0 : Int) = es.sum := hs2
  omega
 have hall : ∀ x ∈ es.filter (· ≠ 0), 0 < x := fun x hx => by
  obtain ⟨h1, h2⟩ := List.mem_filter.mp hx
  obtain ⟨i, hi⟩ := List.getElem?_of_mem h1
  have hil := (List.getElem?_eq_some_iff.mp hi).1
  have ei : es.getD i 0 = x := by rw [List.getD_eq_getElem?_getD, hi]; rfl
  have h3 := hnn i (by omega)
  rw [ei] at h3
  have h4 : x ≠ 0 := by simpa using h2
  omega
 have hT2 : 0 < aV (d + 1) (kept xs es).length (ws d (kept xs es)) := jL hpos2 hne2
 have mv2 : ip (d + 1) (lcL d (es.filter (· ≠ 0)) (kept xs es)) (lcL d (es.filter (· ≠ 0)) (kept xs es)) * r < p * ((es.filter (· ≠ 0)).sum * (es.filter (· ≠ 0)).sum) := by rw [e3, hs2]; exact mv
 refine ⟨⟨fun x hx => o.dim x (jE hx), hpos2, hne2, hl2, fun i hi => Int.le_of_lt (iA hall (by omega)), fun i hi q => ?_, iA hall (by omega), o.rpos, Int.le_of_lt mv2, ?_⟩, kept_lt hfk hzero⟩
 ·have := iA hall (i := i) (by omega)
  omega
 ·rw [gG]
  exact best_lt (a := fun i => (es.filter (· ≠ 0)).getD i 0) hpos2 hT2 o.rpos (by rw [lI hl2, hs2]; exact hsp) (by rw [lI hl2]; exact mv2)
end Mw
namespace Mw
structure Good (d : Nat) (xs : List (List Int)) : Prop where
 dim : Dim d xs
 pos : 0 < cD d xs
 ne : 0 < xs.length
 all : ∀ a ∈ aO d xs, 0 < a
abbrev cT (d : Nat) (xs : List (List Int)) : Int := (aO d xs).sum
section
variable {d : Nat} {xs : List (List Int)} {v : List Int} {S : List Int}
theorem aimZ_eq : aimZ (d + 1) xs.length (ws d xs) = lcL d (aO d xs) xs := nK (fun i hi => (kW hi).symm) fun _ _ _ => rfl
theorem Good.tpos (g : Good d xs) : 0 < cT d xs := by show 0 < (aO d xs).sum; rw [gG]; exact jL g.pos g.ne
def Spot (d : Nat) (xs : List (List Int)) (ts S : List Int) : Prop := S.length = d /\ ∀ t, t < d -> S.getD t 0 = lcL d ts xs t
theorem lcL_last {ts : List Int} (h : ts.length = xs.length) : lcL d ts xs d = ts.sum := by
 show sm xs.length (fun i => ts.getD i 0 * ws d xs i d) = _
 rw [<- lI h]
 exact aK fun i _ => by rw [o0, Int.mul_one]
theorem Spot.dotE {ts : List Int} (s : Spot d xs ts S) (h : ts.length = xs.length) (hv : v.length = d) : dot S v + ts.sum = ip (d + 1) (lcL d ts xs) (lfv d v) := by
 rw [iG S v (by rw [s.1, hv]), s.1]
 show _ = sm d (fun t => lcL d ts xs t * lfv d v t) + lcL d ts xs d * lfv d v d
 have e1 : lfv d v d = 1 := if_pos rfl
 rw [e1, Int.mul_one, lcL_last h]
 congr 1
 refine aK fun t ht => ?_
 rw [s.2 t ht]
 unfold lfv
 rw [if_neg (by omega)]
theorem Good.own (g : Good d xs) (s : Spot d xs (aO d xs) S) {i : Nat} (hi : i < xs.length) : dot S (xs.getD i []) = cD d xs - cT d xs := by
 have h := s.dotE (v := xs.getD i []) (dQ d xs) (g.dim.get hi)
 have h2 := iH (d := d + 1) (k := xs.length) (w := ws d xs) (Int.ne_of_gt g.pos) hi
 rw [aimZ_eq] at h2
 have h3 : ip (d + 1) (lcL d (aO d xs) xs) (lfv d (xs.getD i [])) = cD d xs := h2
 rw [h3] at h
 show _ = _ - (aO d xs).sum
 omega
theorem Good.take (g : Good d xs) (s : Spot d xs (aO d xs) S) (hv : v.length = d) (hlt : dot S v < cD d xs - cT d xs) : 0 < cD d (xs ++ [v]) /\ ArrOk d (cD d xs) (cT d xs) (xs ++ [v]) (aO d xs ++ [0]) := by
 have el : (xs ++ [v]).length = xs.length + 1 := by simp
 have hla := dQ d xs
 have hcon : ∀ i, i < xs.length -> ∀ t, ws d (xs ++ [v]) i t = ws d xs i t := fun i hi t => by rw [ws_app hi]
 have hD : gD (d + 1) xs.length (ws d (xs ++ [v])) = cD d xs := kG
 have hN : ∀ i, i < xs.length -> aim (d + 1) xs.length (ws d (xs ++ [v])) i = aim (d + 1) xs.length (ws d xs) i := fun i hi => aK fun j hj => cN_app hi hj
 have hZ : aimZ (d + 1) xs.length (ws d (xs ++ [v])) = lcL d (aO d xs) xs := nK (fun i hi => by rw [hN i hi, kW hi]) hcon
 have hT : aV (d + 1) xs.length (ws d (xs ++ [v])) = cT d xs := by
  show sm xs.length _ = _
  rw [aK hN]; exact (gG d xs).symm
 have hw : ws d (xs ++ [v]) xs.length = lfv d v := by unfold ws; rw [lX]
 have he : ip (d + 1) (aimZ (d + 1) xs.length (ws d (xs ++ [v]))) (ws d (xs ++ [v]) xs.length) < gD (d + 1) xs.length (ws d (xs ++ [v])) := by
  rw [hZ, hw, <- s.dotE hla hv, hD]
  have hlt' : dot S v < cD d xs - (aO d xs).sum := hlt
  omega
 have hD0 : 0 < gD (d + 1) xs.length (ws d (xs ++ [v])) := by rw [hD]; exact g.pos
 have p1 := more_pos (o0 d (xs ++ [v])) hD0 he
 obtain ⟨p2, p3⟩ := more_near (o0 d (xs ++ [v])) g.ne hD0 he
 rw [hD, hT] at p2
 have hp : 0 < cD d (xs ++ [v]) := by show 0 < gD (d + 1) (xs ++ [v]).length _; rw [el]; exact p1
 have g0 : ∀ i, i < xs.length -> (aO d xs ++ [0]).getD i 0 = (aO d xs).getD i 0 := fun i hi => by
  rw [List.getD_eq_getElem?_getD, List.getElem?_append_left (by omega), <- List.getD_eq_getElem?_getD]
 have g1 : (aO d xs ++ [0]).getD xs.length 0 = 0 := by
  rw [List.getD_eq_getElem?_getD, List.getElem?_append_right (by omega), hla]; simp
 have hlen : (aO d xs ++ [0]).length = (xs ++ [v]).length := by simp [hla]
 have hpos : ∀ i, i < xs.length -> 0 < (aO d xs).getD i 0 := fun i hi => iA g.all (by omega)
 have hsum : (aO d xs ++ [0]).sum = cT d xs := by rw [List.sum_append]; show (aO d xs).sum + (0 + 0) = (aO d xs).sum; omega
 have hlc : lcL d (aO d xs ++ [0]) (xs ++ [v]) = lcL d (aO d xs) xs := by
  funext t
  rw [lV hlen, lV hla, List.zipWith_append hla, List.sum_append]
  show _ + (0 * lfv d v t + 0) = _
  omega
 refine ⟨hp, fun x hx => g.dim.app hv x hx, hp, by omega, hlen, fun i hi => ?_, fun i hi q => ?_, ?_, g.tpos, ?_, ?_⟩
 ·by_cases hk : i < xs.length
  ·rw [g0 i hk]; exact Int.le_of_lt (hpos i hk)
  ·have : i = xs.length := by omega
   rw [this, g1]; exact Int.le_refl _
 ·by_cases hk : i < xs.length
  ·rw [g0 i hk] at q
   have := hpos i hk
   omega
  ·have : i = xs.length := by omega
   subst this
   rw [kW (by omega), el]; exact p3
 ·rw [g0 0 g.ne]; exact hpos 0 g.ne
 ·rw [hlc, hsum]
  have h2 := kH (d := d + 1) (k := xs.length) (w := ws d xs) (Int.ne_of_gt g.pos)
  rw [aimZ_eq] at h2
  rw [h2, <- gG]
  show cD d xs * cT d xs * cT d xs <= cD d xs * (cT d xs * cT d xs)
  rw [Int.mul_assoc]; exact Int.le_refl _
 ·rw [gG]
  show gD (d + 1) (xs ++ [v]).length (ws d (xs ++ [v])) * cT d xs < cD d xs * aV (d + 1) (xs ++ [v]).length (ws d (xs ++ [v]))
  rw [el]; exact p2
theorem ArrOk.done {p r : Int} {ts : List Int} (o : ArrOk d p r xs ts) (h : ∀ a ∈ aO d xs, 0 < a) : Good d xs /\ cD d xs * r < p * cT d xs := ⟨⟨o.dim, o.pos, o.ne, h⟩, o.lt⟩
theorem one_aim (hv : v.length = d) : cJ d [v] = [[1]] /\ cD d [v] = dot v v + 1 /\ aO d [v] = [1] := by
 have e1 : gN (d + 1) 1 (ws d [v]) 0 0 = 1 := kX
 have e2 : cD d [v] = dot v v + 1 := by
  have h := gm_ws (d := d) (xs := [v]) (fun x hx => by rw [List.mem_singleton.mp hx]; exact hv) (i := 0) (j := 0) (by simp) (by simp)
  show det 1 (gm (d + 1) (ws d [v])) = _
  rw [fD]
  show 0 + sg 0 * gm (d + 1) (ws d [v]) 0 0 * 1 = _
  rw [h]
  show 0 + 1 * (dot v v + 1) * 1 = _
  omega
 refine ⟨?_, e2, ?_⟩
 ·show [[gN (d + 1) 1 (ws d [v]) 0 0]] = _
  rw [e1]
 ·show [sm 1 (gN (d + 1) 1 (ws d [v]) 0)] = _
  show [0 + gN (d + 1) 1 (ws d [v]) 0 0] = _
  rw [e1]; rfl
theorem fW (v : List Int) : 0 <= dot v v := by
 rw [iG v v rfl]
 exact jP fun _ _ => gI _
theorem one_good (hv : v.length = d) : Good d [v] := by
 obtain ⟨_, e2, e3⟩ := one_aim hv
 refine ⟨fun x hx => by rw [List.mem_singleton.mp hx]; exact hv, by rw [e2]; have := fW v; omega, by simp, fun a ha => by rw [e3] at ha; rw [List.mem_singleton.mp ha]; decide⟩
def pw (d : Nat) (xs : List (List Int)) : Nat -> Vec := fun i => if i < xs.length then ws d xs i else fun _ => 0
theorem pw_lt {i : Nat} (h : i < xs.length) : pw d xs i = ws d xs i := if_pos h
theorem pw_bound {B : Int} (hB : 1 <= B) (hd : Dim d xs) (hs : ∀ x ∈ xs, dot x x + 1 <= B) (i : Nat) : ip (d + 1) (pw d xs i) (pw d xs i) <= B := by
 by_cases hi : i < xs.length
 ·rw [pw_lt hi]
  have h := gm_ws hd hi hi
  have h2 : ip (d + 1) (ws d xs i) (ws d xs i) = _ := h
  rw [h2]
  refine hs _ ?_
  rw [List.getD_eq_getElem?_getD, List.getElem?_eq_getElem hi]; exact List.getElem_mem hi
 ·have e : pw d xs i = fun _ => 0 := if_neg hi
  rw [e]
  have : ip (d + 1) (fun _ => 0) (fun _ => 0) = 0 := d7 fun _ _ => rfl
  rw [this]; omega
theorem pw_gm {a b : Nat} (ha : a < xs.length) (hb : b < xs.length) : gm (d + 1) (pw d xs) a b = gm (d + 1) (ws d xs) a b := by
 unfold gm; rw [pw_lt ha, pw_lt hb]
theorem pw_det : gD (d + 1) xs.length (pw d xs) = cD d xs := cY fun a b ha hb => pw_gm ha hb
theorem cD_bound {B : Int} (hB : 1 <= B) (hd : Dim d xs) (hs : ∀ x ∈ xs, dot x x + 1 <= B) (hD : 0 < cD d xs) : cD d xs <= B ^ xs.length := by
 rw [<- pw_det]
 exact nO hB (pw_bound hB hd hs) (by rw [pw_det]; exact hD)
theorem cN_bound {B : Int} (hB : 1 <= B) (hd : Dim d xs) (hs : ∀ x ∈ xs, dot x x + 1 <= B) (hD : 0 < cD d xs) {i j : Nat} (hi : i < xs.length) (hj : j < xs.length) : -(B ^ xs.length) <= cN d xs i j /\ cN d xs i j <= B ^ xs.length := by
 obtain ⟨n, en⟩ : ∃ n, xs.length = n + 1 := ⟨xs.length - 1, by omega⟩
 have e2 : gN (d + 1) xs.length (pw d xs) i j = cN d xs i j := adj_congr (fun a b ha hb => pw_gm ha hb) hi hj
 have hD2 : 0 < gD (d + 1) (n + 1) (pw d xs) := by rw [<- en, pw_det]; exact hD
 have h := gN_bound hB (pw_bound hB hd hs) hD2 (i := i) (j := j) (by omega) (by omega)
 rw [<- en, e2] at h
 have hp : B ^ n <= B ^ xs.length := by
  rw [en, Int.pow_succ]
  have h0 : 0 <= B ^ n := Int.pow_nonneg (by omega)
  have := Int.mul_le_mul_of_nonneg_left hB h0
  omega
 omega
theorem twice (hD : 0 < cD d xs) {i k : Nat} (h : i + k + 1 < xs.length) (e : xs.getD i [] = xs.getD (i + k + 1) []) : False := by
 have : cD d xs = 0 := l9 (k := k) (i := i) h fun b => by
  show ip (d + 1) (ws d xs i) (ws d xs b) = ip (d + 1) (ws d xs (i + k + 1)) (ws d xs b)
  have : ws d xs i = ws d xs (i + k + 1) := by unfold ws; rw [e]
  rw [this]
 omega
theorem qQ : ∀ (n : Nat) (l : List Nat), l.Nodup -> (∀ x ∈ l, x < n) -> l.length <= n
 | 0, [], _, _ => Nat.le_refl _
 | 0, x :: _, _, h => by have := h x (List.mem_cons_self ..); omega
 | n + 1, l, hn, h => by
  have ih := qQ n (l.erase n) (hn.erase n) fun x hx => by
   have h1 := (hn.mem_erase_iff).mp hx
   have := h x h1.2
   have := h1.1
   omega
  by_cases hm : n ∈ l
  ·rw [List.length_erase_of_mem hm] at ih; omega
  ·rw [List.erase_of_not_mem hm] at ih; omega
def aF (vs : List (List Int)) (ps : List Nat) : List (List Int) := ps.map fun p => vs.getD p []
theorem bF (vs : List (List Int)) (ps : List Nat) : (aF vs ps).length = ps.length := List.length_map _
theorem jC {vs : List (List Int)} {ps : List Nat} {i : Nat} (h : i < ps.length) : (aF vs ps).getD i [] = vs.getD (ps.getD i 0) [] := by
 unfold aF
 rw [List.getD_eq_getElem?_getD, List.getElem?_map, List.getElem?_eq_getElem h, List.getD_eq_getElem?_getD (l := ps), List.getElem?_eq_getElem h]; rfl
theorem b5 {vs : List (List Int)} {ps : List Nat} (hp : ∀ p ∈ ps, p < vs.length) (hD : 0 < cD d (aF vs ps)) : ps.length <= vs.length := by
 refine qQ _ _ (List.pairwise_iff_getElem.mpr fun i j hi hj hij e => ?_) hp
 refine twice hD (i := i) (k := j - i - 1) (by rw [bF]; omega) ?_
 have ej : i + (j - i - 1) + 1 = j := by omega
 rw [ej, jC hi, jC hj, List.getD_eq_getElem?_getD (l := ps), List.getD_eq_getElem?_getD (l := ps), List.getElem?_eq_getElem hi, List.getElem?_eq_getElem hj, e]
theorem places_nodup {vs : List (List Int)} {ps : List Nat} (hD : 0 < cD d (aF vs ps)) : ps.Nodup := by
 refine List.pairwise_iff_getElem.mpr fun i j hi hj hij e => ?_
 refine twice hD (i := i) (k := j - i - 1) (by rw [bF]; omega) ?_
 have ej : i + (j - i - 1) + 1 = j := by omega
 rw [ej, jC hi, jC hj, List.getD_eq_getElem?_getD (l := ps), List.getD_eq_getElem?_getD (l := ps), List.getElem?_eq_getElem hi, List.getElem?_eq_getElem hj, e]
def far (d : Nat) (B : Int) (xs : List (List Int)) : Nat := (cD d xs * (B * B) / cT d xs).toNat
theorem far_lt {B : Int} {ys : List (List Int)} (g : Good d xs) (h : Good d ys) (hB : cT d xs <= B) (hB' : cT d ys <= B) (hlt : cD d ys * cT d xs < cD d xs * cT d ys) : far d B ys < far d B xs := by
 have t1 := g.tpos
 have t2 := h.tpos
 have d1 := g.pos
 have d2 := h.pos
 unfold far
 generalize cT d xs = T at *
 generalize cT d ys = T' at *
 generalize cD d xs = D at *
 generalize cD d ys = D' at *
 have hBB : T * T' <= B * B := Int.mul_le_mul hB hB' (by omega) (by omega)
 have hB0 : 0 <= B * B := by have := Int.mul_nonneg (show 0 <= B by omega) (show 0 <= B by omega); exact this
 have q1 : D' * (B * B) / T' * T' <= D' * (B * B) := Int.ediv_mul_le _ (by omega)
 have q0 : 0 <= D' * (B * B) / T' := Int.ediv_nonneg (Int.mul_nonneg (by omega) hB0) (by omega)
 have q2 : D' * (B * B) / T' + 1 <= D * (B * B) / T := by
  refine Int.le_ediv_of_mul_le t1 ?_
  generalize D' * (B * B) / T' = q at *
  refine Int.le_of_mul_le_mul_right ?_ t2
  have r1 : q * T' * T <= D' * (B * B) * T := Int.mul_le_mul_of_nonneg_right q1 (by omega)
  have r2 : (D' * T + 1) * (B * B) <= D * T' * (B * B) := Int.mul_le_mul_of_nonneg_right (by omega) hB0
  grind
 omega
end
end Mw
namespace Mw
inductive Arr (d : Nat) (vs : List (List Int)) : List Nat -> List Int -> List Nat -> Prop
 | here {ps : List Nat} {ts : List Int} : (∀ a ∈ aO d (aF vs ps), 0 < a) -> Arr d vs ps ts ps
 | on {ps ps' : List Nat} {ts : List Int} : (¬ ∀ a ∈ aO d (aF vs ps), 0 < a) -> Arr d vs (kept ps (cM ts (aO d (aF vs ps)))) ((cM ts (aO d (aF vs ps))).filter (· ≠ 0)) ps' -> Arr d vs ps ts ps'
theorem Arr.one {d : Nat} {vs : List (List Int)} {ps a b : List Nat} {ts : List Int} (h : Arr d vs ps ts a) (k : Arr d vs ps ts b) : a = b := by
 induction h with
 | here q =>
  cases k with
  | here _ => rfl
  | on n _ => exact absurd q n
 | on n _ ih =>
  cases k with
  | here q => exact absurd q n
  | on _ k' => exact ih k'
def dN (vs : List (List Int)) (S : List Int) : List Int := vs.map fun v => dot S v
theorem Spot.one {d : Nat} {xs : List (List Int)} {ts S S' : List Int} (h : Spot d xs ts S) (k : Spot d xs ts S') : S = S' := by
 refine List.ext_getElem (by rw [h.1, k.1]) fun t h1 h2 => ?_
 have e1 := h.2 t (by have := h.1; omega)
 have e2 := k.2 t (by have := h.1; omega)
 rw [List.getD_eq_getElem?_getD, List.getElem?_eq_getElem h1] at e1
 rw [List.getD_eq_getElem?_getD, List.getElem?_eq_getElem h2] at e2
 have e1 : S[t] = _ := e1
 have e2 : S'[t] = _ := e2
 rw [e1, e2]
def LeastOf (m : Int) (l : List Int) : Prop := m ∈ l /\ ∀ b ∈ l, m <= b
theorem LeastOf.one {m m' : Int} {l : List Int} (h : LeastOf m l) (k : LeastOf m' l) : m = m' := by
 have := h.2 m' k.1
 have := k.2 m h.1
 omega
inductive Srch (d : Nat) (vs : List (List Int)) : List Nat -> List Nat -> Prop
 | stop {ps : List Nat} {S : List Int} {m : Int} : Spot d (aF vs ps) (aO d (aF vs ps)) S -> LeastOf m (dN vs S) -> m = (dN vs S).getD (ps.getD 0 0) 0 -> Srch d vs ps ps
 | on {ps ps1 ps' : List Nat} {S : List Int} {m : Int} : Spot d (aF vs ps) (aO d (aF vs ps)) S -> LeastOf m (dN vs S) -> m ≠ (dN vs S).getD (ps.getD 0 0) 0 ->
   Arr d vs (ps ++ [(dN vs S).idxOf m]) (aO d (aF vs ps) ++ [0]) ps1 -> Srch d vs ps1 ps' -> Srch d vs ps ps'
theorem Srch.one {d : Nat} {vs : List (List Int)} {ps a b : List Nat} (h : Srch d vs ps a) (k : Srch d vs ps b) : a = b := by
 induction h with
 | stop s l e =>
  cases k with
  | stop _ _ _ => rfl
  | on s' l' n' _ _ =>
   obtain rfl := s.one s'
   obtain rfl := l.one l'
   exact absurd e n'
 | on s l n a _ ih =>
  cases k with
  | stop s' l' e' =>
   obtain rfl := s.one s'
   obtain rfl := l.one l'
   exact absurd e' n
  | on s' l' n' a' k' =>
   obtain rfl := s.one s'
   obtain rfl := l.one l'
   obtain rfl := a.one a'
   exact ih k'
structure Last (d : Nat) (vs : List (List Int)) (ps : List Nat) : Prop where
 good : Good d (aF vs ps)
 below : ∀ p ∈ ps, p < vs.length
 best : ∀ S, Spot d (aF vs ps) (aO d (aF vs ps)) S -> ∀ v ∈ vs, cD d (aF vs ps) - cT d (aF vs ps) <= dot S v
def First (vs : List (List Int)) (ps : List Nat) : Prop := ∃ m, LeastOf m (vs.map fun v => dot v v) /\ ps = [(vs.map fun v => dot v v).idxOf m]
theorem First.one {vs : List (List Int)} {a b : List Nat} (h : First vs a) (k : First vs b) : a = b := by
 obtain ⟨m, h1, rfl⟩ := h
 obtain ⟨m', h2, rfl⟩ := k
 rw [h1.one h2]
def Found (d : Nat) (vs : List (List Int)) (ps : List Nat) : Prop := Last d vs ps /\ ∃ p0, First vs p0 /\ Srch d vs p0 ps
theorem Found.one {d : Nat} {vs : List (List Int)} {a b : List Nat} (h : Found d vs a) (k : Found d vs b) : a = b := by
 obtain ⟨_, p, h1, h2⟩ := h
 obtain ⟨_, p', h3, h4⟩ := k
 obtain rfl := h1.one h3
 exact h2.one h4
end Mw
namespace Mw
def Lim (e : Nat) (vs : List (List Int)) : Prop := ∀ v ∈ vs, dot v v + 1 <= ((2 ^ e : Nat) : Int)
theorem n5 {n A : Nat} {f : Nat -> Int} (h : ∀ i, i < n -> (f i).natAbs <= A) : (sm n f).natAbs <= n * A := by
 induction n with
 | zero => show (0 : Int).natAbs <= _; simp
 | succ n ih =>
  have h1 := ih fun i hi => h i (by omega)
  have h2 := h n (by omega)
  have h3 := Int.natAbs_add_le (sm n f) (f n)
  show (sm n f + f n).natAbs <= (n + 1) * A
  rw [Nat.succ_mul]; omega
theorem oG (e : Nat) : 1 <= ((2 ^ e : Nat) : Int) := by have := Nat.one_le_two_pow (n := e); omega
theorem pow_cast (e k : Nat) : ((2 ^ e : Nat) : Int) ^ k = ((2 ^ (e * k) : Nat) : Int) := by
 rw [<- Int.natCast_pow, <- Nat.pow_mul]
theorem abs_of {x : Int} {n : Nat} (h1 : -(n : Int) <= x) (h2 : x <= n) : x.natAbs <= n := by omega
section
variable {e d : Nat} {xs : List (List Int)} {v : List Int}
theorem cD_abs (hd : Dim d xs) (hl : Lim e xs) (hD : 0 < cD d xs) : (cD d xs).natAbs <= 2 ^ (e * xs.length) := by
 have h := cD_bound (oG e) hd hl hD
 rw [pow_cast] at h
 omega
theorem cN_abs (hd : Dim d xs) (hl : Lim e xs) (hD : 0 < cD d xs) {i j : Nat} (hi : i < xs.length) (hj : j < xs.length) : (cN d xs i j).natAbs <= 2 ^ (e * xs.length) := by
 have h := cN_bound (oG e) hd hl hD hi hj
 rw [pow_cast] at h
 exact abs_of h.1 h.2
theorem tabN_abs (hd : Dim d xs) (hl : Lim e xs) (hD : 0 < cD d xs) {l : List Int} (h : l ∈ cJ d xs) : l.length = xs.length /\ ∀ x ∈ l, x.natAbs <= 2 ^ (e * xs.length) := by
 unfold cJ at h
 obtain ⟨i, hi, rfl⟩ := List.mem_map.mp h
 refine ⟨by simp, fun x hx => ?_⟩
 obtain ⟨j, hj, rfl⟩ := List.mem_map.mp hx
 exact cN_abs hd hl hD (List.mem_range.mp hi) (List.mem_range.mp hj)
theorem dot_absV {B : Nat} {x y : List Int} (hl : x.length = y.length) (hx : dot x x <= B) (hy : dot y y <= B) : (dot x y).natAbs <= B := by
 have h := pT (d := x.length) (fun t => x.getD t 0) (fun t => y.getD t 0)
 have e1 : ip x.length (fun t => x.getD t 0) (fun t => y.getD t 0) = dot x y := (iG x y hl).symm
 have e2 : ip x.length (fun t => x.getD t 0) (fun t => x.getD t 0) = dot x x := (iG x x rfl).symm
 have e3 : ip x.length (fun t => y.getD t 0) (fun t => y.getD t 0) = dot y y := by rw [iG y y rfl, <- hl]; rfl
 rw [e1, e2, e3] at h
 have q1 := fW x
 have q2 := fW y
 have h2 : dot x x * dot y y <= (B : Int) * B := Int.mul_le_mul hx hy q2 (by omega)
 generalize dot x y = z at *
 refine Nat.not_lt.mp fun q => ?_
 have h3 : ((B : Int) + 1) * ((B : Int) + 1) <= z * z := by
  rcases Int.le_total 0 z with w | w
  ·exact Int.mul_le_mul (by omega) (by omega) (by omega) (by omega)
  ·have y : ((B : Int) + 1) * ((B : Int) + 1) <= (-z) * (-z) := Int.mul_le_mul (by omega) (by omega) (by omega) (by omega)
   rw [Int.neg_mul_neg] at y; exact y
 have h4 : ((B : Int) + 1) * ((B : Int) + 1) = (B : Int) * B + 2 * B + 1 := by grind
 omega
theorem lM {B : Nat} {x : List Int} (hx : dot x x <= B) {z : Int} (hz : z ∈ x) : z.natAbs <= B := by
 obtain ⟨i, hi⟩ := List.getElem?_of_mem hz
 have hil := (List.getElem?_eq_some_iff.mp hi).1
 have ei : x.getD i 0 = z := by rw [List.getD_eq_getElem?_getD, hi]; rfl
 rw [iG x x rfl] at hx
 have h1 := sm_term (f := fun t => x.getD t 0 * x.getD t 0) (fun _ _ => gI _) hil
 have h1 : x.getD i 0 * x.getD i 0 <= sm x.length (fun t => x.getD t 0 * x.getD t 0) := h1
 rw [ei] at h1
 have h2 : z * z = ((z.natAbs * z.natAbs : Nat) : Int) := by rw [Int.natCast_mul]; exact (Int.natAbs_mul_self' z).symm
 have h3 : z.natAbs * z.natAbs <= B := by omega
 by_cases q : z.natAbs = 0
 ·omega
 ·have := Nat.mul_le_mul_right z.natAbs (show 1 <= z.natAbs by omega)
  omega
theorem Lim.sq (hl : Lim e xs) {x : List Int} (h : x ∈ xs) : dot x x <= ((2 ^ e : Nat) : Int) := by have := hl x h; omega
theorem colL_abs (hd : Dim d xs) (hl : Lim e xs) (hv : v.length = d) (hv2 : dot v v + 1 <= ((2 ^ e : Nat) : Int)) : ∀ c ∈ gF xs v, c.natAbs <= 2 ^ e + 1 := fun c hc => by
 unfold gF at hc
 obtain ⟨x, hx, rfl⟩ := List.mem_map.mp hc
 have := dot_absV (B := 2 ^ e) (x := x) (y := v) (by rw [hd x hx, hv]) (hl.sq hx) (by omega)
 omega
theorem iB {A B : Nat} : ∀ {x y : List Int}, (∀ z ∈ x, z.natAbs <= A) -> (∀ z ∈ y, z.natAbs <= B) -> (dot x y).natAbs <= x.length * (A * B)
 | [], _, _, _ => by unfold dot; simp
 | _ :: _, [], _, _ => by unfold dot; simp
 | a :: x, b :: y, h1, h2 => by
  have ih := iB (x := x) (y := y) (fun z hz => h1 z (List.mem_cons_of_mem _ hz)) (fun z hz => h2 z (List.mem_cons_of_mem _ hz))
  have e1 : dot (a :: x) (b :: y) = a * b + dot x y := by show (List.zipWith _ _ _).sum = _; rw [List.zipWith_cons_cons, List.sum_cons]; rfl
  have m : (a * b).natAbs <= A * B := by rw [Int.natAbs_mul]; exact Nat.mul_le_mul (h1 a (List.mem_cons_self ..)) (h2 b (List.mem_cons_self ..))
  have t := Int.natAbs_add_le (a * b) (dot x y)
  rw [e1, List.length_cons, Nat.succ_mul]; omega
theorem imgL_abs (hd : Dim d xs) (hl : Lim e xs) (hD : 0 < cD d xs) (hv : v.length = d) (hv2 : dot v v + 1 <= ((2 ^ e : Nat) : Int)) : ∀ c ∈ bU d xs v, c.natAbs <= xs.length * (2 ^ (e * xs.length) * (2 ^ e + 1)) := fun c hc => by
 unfold bU at hc
 obtain ⟨l, hm, rfl⟩ := List.mem_map.mp hc
 obtain ⟨h1, h2⟩ := tabN_abs hd hl hD hm
 have := iB h2 (colL_abs hd hl hv hv2)
 rw [h1] at this; exact this
theorem aimL_abs (hd : Dim d xs) (hl : Lim e xs) (hD : 0 < cD d xs) : ∀ a ∈ aO d xs, a.natAbs <= xs.length * 2 ^ (e * xs.length) := fun a ha => by
 unfold aO at ha
 obtain ⟨i, hi, rfl⟩ := List.mem_map.mp ha
 exact n5 fun j hj => cN_abs hd hl hD (List.mem_range.mp hi) hj
theorem cT_abs (hd : Dim d xs) (hl : Lim e xs) (hD : 0 < cD d xs) : (cT d xs).natAbs <= xs.length * (xs.length * 2 ^ (e * xs.length)) := by
 show (aO d xs).sum.natAbs <= _
 rw [gG]
 exact n5 fun i hi => n5 fun j hj => cN_abs hd hl hD hi hj
end
theorem iS (k : Nat) : k < 2 ^ k := Nat.lt_two_pow_self
theorem line_img {e k n : Nat} (hk : k <= n) (h : e * (n + 2) + 2 * n + 4 <= 2900) : k * (2 ^ (e * k) * (2 ^ e + 1)) < 2 ^ 2900 := by
 have h1 := iS k
 have h2 : 2 ^ e + 1 <= 2 ^ (e + 1) := by rw [Nat.pow_succ]; have := Nat.one_le_two_pow (n := e); omega
 have h3 : k * (2 ^ (e * k) * (2 ^ e + 1)) <= 2 ^ k * (2 ^ (e * k) * 2 ^ (e + 1)) := Nat.mul_le_mul (by omega) (Nat.mul_le_mul_left _ h2)
 rw [<- Nat.pow_add, <- Nat.pow_add] at h3
 refine Nat.lt_of_le_of_lt h3 (Nat.pow_lt_pow_right (by decide) ?_)
 have : e * k <= e * n := Nat.mul_le_mul_left _ hk
 rw [Nat.mul_add] at h
 omega
theorem line_sum {e k n : Nat} (hk : k <= n) (h : e * (n + 2) + 2 * n + 4 <= 2900) : k * (k * 2 ^ (e * k)) < 2 ^ 2900 := by
 have h1 := iS k
 have h3 : k * (k * 2 ^ (e * k)) <= 2 ^ k * (2 ^ k * 2 ^ (e * k)) := Nat.mul_le_mul (by omega) (Nat.mul_le_mul_right _ (by omega))
 rw [<- Nat.pow_add, <- Nat.pow_add] at h3
 refine Nat.lt_of_le_of_lt h3 (Nat.pow_lt_pow_right (by decide) ?_)
 have : e * k <= e * n := Nat.mul_le_mul_left _ hk
 rw [Nat.mul_add] at h
 omega
theorem line_one {e k n : Nat} (hk : k <= n) (h : e * (n + 2) + 2 * n + 4 <= 2900) : 2 ^ (e * k) < 2 ^ 2900 := by
 refine Nat.pow_lt_pow_right (by decide) ?_
 have : e * k <= e * n := Nat.mul_le_mul_left _ hk
 rw [Nat.mul_add] at h
 omega
theorem line_aim {e k n : Nat} (hk : k <= n) (h : e * (n + 2) + 2 * n + 4 <= 2900) : k * 2 ^ (e * k) < 2 ^ 2900 := by
 have h1 := iS k
 have h3 : k * 2 ^ (e * k) <= 2 ^ k * 2 ^ (e * k) := Nat.mul_le_mul_right _ (by omega)
 rw [<- Nat.pow_add] at h3
 refine Nat.lt_of_le_of_lt h3 (Nat.pow_lt_pow_right (by decide) ?_)
 have : e * k <= e * n := Nat.mul_le_mul_left _ hk
 rw [Nat.mul_add] at h
 omega
theorem line_e {e n : Nat} (h : e * (n + 2) + 2 * n + 4 <= 2900) : 2 ^ e + 1 < 2 ^ 2900 := by
 have h2 : 2 ^ e + 1 <= 2 ^ (e + 1) := by rw [Nat.pow_succ]; have := Nat.one_le_two_pow (n := e); omega
 refine Nat.lt_of_le_of_lt h2 (Nat.pow_lt_pow_right (by decide) ?_)
 rw [Nat.mul_add] at h
 omega
end Mw
namespace L2
open PySem PySem.Spec PyProof.Rows
def Itd (j : Int) (n : Nat) : It where
 go := fun k _ => k < n
 yld := fun k H v H' => H' = H /\ v = .int (j - k)
 stop := fun k _ => n <= k
theorem turn_down {P : Program} {w : World} {K : PySem.W.Frag} {tg : Expr} (r : Addr) (j : Int) (n : Nat) :
  Turn P w K tg (Itd j n) [r] r (fun k h => IsRangeIter h r (j + (k : Nat) * (-1)) ((n : Int) - (k : Nat)) (-1)) := by
 refine ⟨List.mem_singleton.mpr rfl, fun k h q b hb => ?_, fun k h h' q z => z r (List.mem_singleton.mpr rfl) _ q, ?_, ?_, fun _ _ _ _ _ q z => wpAny_pyIter_rangeiter q z⟩
 ·rw [List.mem_singleton.mp hb]
  exact ⟨_, q, fun v z => (by have y : Data.fields _ = Data.cell v := z; cases y)⟩
 ·rintro X rfl rfl rfl hc k pins s σ H E I hf q (hg : k < n)
  have ⟨g0, g1, _, g3, g4, g5⟩ := hf r (List.mem_singleton.mpr rfl)
  refine (Walks.range (prog := X.prog) (w := X.w) (I.ok.hd hc) r j (-1) n).item k s _ _ hg q fun v h' tk hv q' kk => ?_
  obtain ⟨t, ev⟩ := hv
  subst ev
  have J : Inv X pins σ H { s with heap := h', toks := tk } := I.turned (fun b o hb e => kk b o (fun z => hb (List.mem_singleton.mp z)) e) g0 g1 g3 g4 g5
  refine ⟨_, rfl, go_of (s := { s with heap := h', toks := tk }) (n := "range_iterator") q' rfl rfl (by decide) ⟨.int (j - k), H, J, ⟨t, ?_⟩, ⟨rfl, rfl⟩, q', fun b hb => (hf b hb).1⟩⟩
  rw [Int.mul_neg, Int.mul_one, Int.sub_eq_add_neg]
 ·rintro X rfl rfl rfl hc k pins s σ H E I hf q (hg : n <= k)
  have ⟨g0, g1, _, g3, g4, g5⟩ := hf r (List.mem_singleton.mpr rfl)
  exact wpAny_pyNext_range_end (I.ok.hd hc) q (by omega) fun h' eb => ⟨rfl, I.turned (t' := s.toks) (fun b o hb e => eb b o hb e) g0 g1 g3 g4 g5⟩
section
variable {X : Cx} {tg : Expr}
def iRngD (ta : TA) : TI := fun σ H R => ta σ H fun vs H1 => ∃ j : Int, vs = [.int j, .int (-1), .int (-1)] /\ -1 <= j /\ j < 1000000 /\ R (Itd j (j + 1).toNat) H1
theorem qB {j : Int} (h : -1 <= j) : Builtin.Range.rangeSize j (-1) (-1) = (((j + 1).toNat : Nat) : Int) := by
 unfold Builtin.Range.rangeSize
 rw [if_neg (by decide)]
 by_cases z : j > -1
 ·rw [if_pos z]
  have : (j - -1 - 1) / (- -1) = j := by rw [show (- -1 : Int) = 1 by decide, Int.ediv_one]; omega
  rw [this]; omega
 ·rw [if_neg z]; omega
theorem pi_range3 {a b c : Expr} {ta : TA} {p pos : Pos} (hg : Gl X "range") (hm : X.mg "range" = none) (ha : PA X [a, b, c] ta)
  (hs : starEach [a, b, c] X.env = [(false, eval a X.env), (false, eval b X.env), (false, eval c X.env)] := by rfl) (hs2 : starEach [b, c] X.env = [(false, eval b X.env), (false, eval c X.env)] := by rfl) :
  PI X tg (.Call (.Name "range" p) [a, b, c] [] pos) (iRngD ta) := fun pins s σ H R I h => by
 refine Call_ (iD I hg hm boot_range (PyProof.Rows.callWith_type1 (thn (ha pos pins s σ H _ I h) fun us s1 ⟨vs, H1, I1, r1, q1⟩ => ?_) (by rw [hs, hs2]) (by rw [hs2]; rfl)))
 obtain ⟨j, rfl, h1, h2, q⟩ := q1
 obtain ⟨t1, t2, t3, rfl⟩ : ∃ t1 t2 t3, us = [.int j t1, .int (-1) t2, .int (-1) t3] := by
  cases r1 with
  | cons y1 r2 => cases r2 with
   | cons y2 r3 => cases r3 with
    | cons y3 r4 =>
     cases r4
     obtain ⟨t1, rfl⟩ := y1
     obtain ⟨t2, rfl⟩ := y2
     obtain ⟨t3, rfl⟩ := y3
     exact ⟨t1, t2, t3, rfl⟩
 refine call_range_3 (by decide) ?_ (.inl (PyProof.noPylong_of_log2 (by decide +kernel)))
 refine wpAny_pyIter_range (IsRange.new ..) ?_ ?_
 ·unfold Builtin.Range.small
  rw [qB h1]
  simp only [Builtin.Range.rangeFitsLong, Bool.and_eq_true, Bool.or_eq_true, decide_eq_true_eq, beq_iff_eq]
  refine ⟨by omega, .inr (by decide)⟩
 have J : Inv X pins σ H1 { s1 with heap := s1.heap.push { cls := .type "range", data := .fields #[.int j t1, .int (-1) t2, .int (-1) t3] }, toks := s1.toks } := I1.kept fun b o e => Heap.get?_push_of_some _ e
 refine ⟨_, [_], _, _, H1, rfl, J.kept (t' := s1.toks) fun b o e => Heap.get?_push_of_some _ e, turn_down _ j (j + 1).toNat, ?_, fun b hb => ?_, q⟩
 ·have e1 : j + ((0 : Nat) : Int) * (-1) = j := by simp
  have e2 : (((j + 1).toNat : Nat) : Int) - ((0 : Nat) : Int) = Builtin.Range.rangeSize j (-1) (-1) := by rw [qB h1]; omega
  show IsRangeIter _ _ (j + ((0 : Nat) : Int) * (-1)) ((((j + 1).toNat : Nat) : Int) - ((0 : Nat) : Int)) (-1)
  rw [e1, e2]
  exact Heap.get?_push_size _ rfl
 ·rw [List.mem_singleton.mp hb]
  exact J.fpOk (Nat.le_refl _) (J.hok.fresh (Nat.le_refl _))
end
theorem for_down {j : Int} {n : Nat} {g : TG} {tb : TS} {D : g9} {σ : St} {H : Hp} (Pv : Nat -> St -> Hp -> Prop) (h0 : Pv 0 σ H)
  (hs : ∀ k σ H, k < n -> Pv k σ H -> g (.int (j - k)) σ H fun σ2 H2 => tb { D with nx := Pv (k + 1), ct := Pv (k + 1), bk := D.nx } σ2 H2) (hd : ∀ σ H, Pv n σ H -> D.nx σ H) :
  ∃ W : Nat -> Nat -> St -> Hp -> Prop, (∃ m, W 0 m σ H) /\ ∀ k m σ H, W k m σ H ->
   ((Itd j n).stop k H /\ D.nx σ H) \/ ((Itd j n).go k H /\ ∃ N : St -> Hp -> Prop, (∀ σ' H', N σ' H' -> ∃ m', m' < m /\ W (k + 1) m' σ' H') /\ ∀ x H', (Itd j n).yld k H x H' -> g x σ H' fun σ2 H2 => tb { D with nx := N, ct := N, bk := D.nx } σ2 H2) := by
 refine ⟨fun k m σ H => m + k = n /\ Pv k σ H, ⟨n, rfl, h0⟩, fun k m σ H ⟨e, p⟩ => ?_⟩
 by_cases z : k < n
 ·exact .inr ⟨z, Pv (k + 1), fun σ' H' p' => ⟨m - 1, by omega, by omega, p'⟩, fun x H' ⟨y1, y2⟩ => by subst y1 y2; exact hs k σ _ z p⟩
 ·have : k = n := by omega
  subst this
  exact .inl ⟨Nat.le_refl _, hd σ H p⟩
end L2
namespace L2
open PySem PySem.Spec PyProof.Rows
section
variable {X : Cx} {K : PySem.W.Frag}
def rCatA (K : PySem.W.Frag) : R2 := fun x y H Q => ∃ a b xs ys, x = .ref a /\ y = .ref b /\ SqT K H a xs /\ H b = some (.tup ys) /\ ys ≠ [] /\ xs.length + ys.length <= sizeLine /\ ∀ r H', Same H H' -> (r = b \/ H r = none) -> H' r = some (.tup (xs ++ ys)) -> Q (.ref r) H'
theorem op_catA (hK : X.K = K) : OpR X (binaryOp .Add) (rCatA K) := by
 subst hK
 intro pins s σ H x y v u Q I rx ry h
 obtain ⟨a, b, xs, ys, rfl, rfl, ha, hb, hy, hz, q⟩ := h
 cases rx
 cases ry
 obtain ⟨its, r1, p1, _⟩ := I.tuple ha
 obtain ⟨its2, r2, p2, _⟩ := I.tuple (SqT.of (K := X.K) hb)
 by_cases hx : xs = []
 ·subst hx
  obtain rfl := r1.nil_iff.mpr rfl
  obtain ⟨⟨cls, dd, data, sl⟩, ho, hc, n, hd⟩ := id p1
  obtain ⟨⟨cls2, dd2, data2, sl2⟩, ho2, hc2, n2, hd2⟩ := id p2
  simp only at hc hd hc2 hd2
  subst hc hd hc2 hd2
  exact concat_meets ⟨_, ho, rfl⟩ ⟨_, ho2, rfl⟩ noFill_tuple_add seq_tuple_add PySem.F.slot_tuple_add PySem.F.entry_tuple_add (PySem.F.args_tuple_add_2 _ _)
   (tuple_addW0 a b _ _ n n2 dd dd2 sl sl2 (by simp)) ⟨ho, ho2, ⟨.ref b, H, I, rfl, q b H (Same.refl _) (.inl rfl) hb⟩⟩
 ·refine HT.cat_tup p1 p2 (fun z => hx (r1.nil_iff.mp z)) (fun z => absurd (r2.nil_iff.mp z) hy) (fun z => ?_) (by rw [<- r1.length, <- r2.length]; exact hz)
  have hf : H s.heap.objs.size = none := I.hok.fresh (Nat.le_refl _)
  refine ⟨.ref s.heap.objs.size, _, I.laid (t' := s.toks) (o := .tup (xs ++ ys)) (fun b ob q => Heap.get?_push_of_some _ q) (Nat.le_refl _) ?_, rfl, q _ _ (Same.new hf _) (.inr hf) aC⟩
  exact ⟨by rw [List.length_append]; exact hz, _, r1.append r2, IsTup.new _ _⟩
def rRepA : R2 := fun x y H Q => ∃ (a : Addr) (n : Nat) (xs : List V), x = .ref a /\ y = .int n /\ H a = some (.tup xs) /\ xs ≠ [] /\ 1 <= n /\ n <= 1000 /\ xs.length <= 1000 /\ ∀ r H', Same H H' -> (r = a \/ H r = none) -> H' r = some (.tup (List.replicate n xs).flatten) -> Q (.ref r) H'
theorem op_repA : OpR X (binaryOp .Mult) rRepA := by
 intro pins s σ H x y v u Q I rx ry h
 obtain ⟨a, n, xs, rfl, rfl, ha, hne, h1, h2, h3, q⟩ := h
 refine op_repT pins s σ H _ _ v u Q I rx ry ⟨a, n, xs, rfl, rfl, SqT.of ha, hne, by omega, by omega, h3, fun e => ?_, fun _ p hp => ?_⟩
 ·have : n = 1 := by omega
  subst this
  exact q a H (Same.refl _) (.inl rfl) (by rw [ha]; simp)
 ·rw [Int.toNat_natCast]
  exact q p _ (Same.new hp _) (.inr hp) aC
end
end L2
namespace L2
open PySem PySem.Spec PyProof.Rows
section
variable {X : Cx}
theorem mt_index : MtM X "list.index" (fun x vs H Q => ∃ (l : Addr) (ns : List Int) (n : Int), x = .ref l /\ vs = [.int n] /\ H l = some (.lst (ns.map V.int)) /\ n ∈ ns /\ ns.length <= 1000 /\ Q (.int (ns.idxOf n : Nat)) H) := by
 intro pins s σ H x vs v us Q I rx rv h
 obtain ⟨l, ns, k, rfl, rfl, hH, hk, hl, q⟩ := h
 cases rx
 obtain ⟨u, rfl, t, rfl⟩ := rv.one
 obtain ⟨its, n0, r, e, hz⟩ := I.lst hH
 have hi := eE r
 have hlen := hi.length
 have hj : ns.idxOf k < ns.length := List.idxOf_lt_length_iff.mpr hk
 refine call_meets PySem.F.slot_list_index ⟨_, e, rfl⟩ PySem.F.entry_list_index (PySem.F.args_list_index_2 _ _)
  (SeqAt.list_indexAt l its.toArray n0 none #[] (.int k t) (isInt k) (ns.idxOf k) (by simpa [hlen] using hj) (by omega) ?_ ?_) ⟨e, fun y hy => (eq_isInt k t hi y (by simpa using hy)).at _ _, ⟨.int _, H, I.tok _, ⟨_, rfl⟩, q⟩⟩
 ·show isInt k its[ns.idxOf k] = true
  rw [isInt_at k hi _ (by omega) hj]
  simpa using List.getElem_idxOf hj
 ·intro j hjs hlt
  show isInt k its[j] = false
  rw [isInt_at k hi j (by simpa using hjs) (by omega)]
  exact ne_of_lt_idxOf hlt _
end
end L2
namespace L2
open PySem Mw
section
variable {K : PySem.W.Frag} {H H' H'' : Hp} {a b C dx : Addr} {fs : List (Str × V)} {xs : List V} {as : List Addr} {ps : List (List Int)}
theorem OffD.trans (h : OffD a H H') (k : OffD a H' H'') : OffD a H H'' := fun b o n e => k b o n (h b o n e)
theorem OffD.refl : OffD a H H := fun _ _ _ h => h
theorem OffD.lst (h : OffD a H H') (ea : H a = some (.ins C dx fs)) (e : H b = some (.lst xs)) : H' b = some (.lst xs) := h b _ (fun z => by rw [z, ea] at e; cases e) e
theorem OffD.tup (h : OffD a H H') (ea : H a = some (.ins C dx fs)) (e : H b = some (.tup xs)) : H' b = some (.tup xs) := h b _ (fun z => by rw [z, ea] at e; cases e) e
theorem OffD.seq (h : OffD a H H') (ea : H a = some (.ins C dx fs)) (e : SqL K H b xs) : SqL K H' b xs := by
 rcases e with (e | ⟨o, e⟩) | e
 ·exact .inl (.inl (h.lst ea e))
 ·exact .inl (.inr ⟨o, h b _ (fun z => by rw [z, ea] at e; cases e) e⟩)
 ·exact .inr e
theorem OffD.seqT (h : OffD a H H') (ea : H a = some (.ins C dx fs)) (e : SqT K H b xs) : SqT K H' b xs := by
 rcases e with (e | ⟨o, e⟩) | e
 ·exact .inl (.inl (h.tup ea e))
 ·exact .inl (.inr ⟨o, h b _ (fun z => by rw [z, ea] at e; cases e) e⟩)
 ·exact .inr e
theorem OffD.pts (h : OffD a H H') (ea : H a = some (.ins C dx fs)) (e : PtsAt K H as ps) : PtsAt K H' as ps := Paired.mapP e fun _ _ q => h.seqT ea q
theorem OffD.same (h : OffD a H' H'') (s : Same H H') (n : H a = none) : Same H H'' := fun b o e => h b o (bH e n) (s b o e)
end
end L2
namespace Mw
open PySem L2
variable [LamPos]
def LinesAt (H : Hp) (la : List Addr) (tab : List (List Int)) : Prop := Paired (fun l xs => H l = some (.lst (xs.map V.int))) la tab
abbrev corFlds : List Str := ["vectors", "places", "inverse", "determinant"]
structure CFs (va pa ia : Addr) (D : Int) (fs : List (Str × V)) : Prop where
 vectors : fs.lookup ("vectors" : Str) = some (.ref va)
 places : fs.lookup ("places" : Str) = some (.ref pa)
 inverse : fs.lookup ("inverse" : Str) = some (.ref ia)
 det : fs.lookup ("determinant" : Str) = some (.int D)
 few : fs.length <= 10
 no : ∀ f : Str, f ∉ corFlds -> fs.lookup f = none
structure CAt (C : Addr) (H : Hp) (a va : Addr) (ps : List Nat) (tab : List (List Int)) (D : Int) : Prop where
 ex : ∃ dx fs pa ia la, H a = some (.ins C dx fs) /\ CFs va pa ia D fs /\ H pa = some (.lst (numsV ps)) /\ H ia = some (.lst (la.map V.ref)) /\ LinesAt H la tab
section
variable {C a va : Addr} {H H' : Hp} {ps : List Nat} {tab : List (List Int)} {D : Int} {la : List Addr}
theorem LinesAt.same (q : LinesAt H la tab) (s : Same H H') : LinesAt H' la tab := Paired.mapP q fun _ _ z => s _ _ z
theorem LinesAt.off {dx : Addr} {fs : List (Str × V)} (q : LinesAt H la tab) (o : OffD a H H') (ea : H a = some (.ins C dx fs)) : LinesAt H' la tab := Paired.mapP q fun _ _ z => o.lst ea z
theorem CAt.same (q : CAt C H a va ps tab D) (s : Same H H') : CAt C H' a va ps tab D := by
 obtain ⟨dx, fs, pa, ia, la, e, F, h1, h2, h3⟩ := q.ex
 exact ⟨⟨dx, fs, pa, ia, la, s _ _ e, F, s _ _ h1, s _ _ h2, h3.same s⟩⟩
theorem CFs.set {va pa ia pa' ia' : Addr} {D D' : Int} {fs : List (Str × V)} (F : CFs va pa ia D fs) : CFs va pa' ia' D' (bI "determinant" (.int D') (bI "inverse" (.ref ia') (bI "places" (.ref pa') fs))) := by
 have l1 : (bI "places" (V.ref pa') fs).length = fs.length := kO F.places
 have e1 : (bI "places" (V.ref pa') fs).lookup ("inverse" : Str) = some (.ref ia) := by rw [aT, if_neg (by decide +kernel)]; exact F.inverse
 have l2 : (bI "inverse" (V.ref ia') (bI "places" (V.ref pa') fs)).length = fs.length := by rw [kO e1, l1]
 have e2 : (bI "inverse" (V.ref ia') (bI "places" (V.ref pa') fs)).lookup ("determinant" : Str) = some (.int D) := by rw [aT, if_neg (by decide +kernel), aT, if_neg (by decide +kernel)]; exact F.det
 refine ⟨?_, ?_, ?_, ?_, ?_, fun f hf => ?_⟩
 ·rw [aT, if_neg (by decide +kernel), aT, if_neg (by decide +kernel), aT, if_neg (by decide +kernel)]; exact F.vectors
 ·rw [aT, if_neg (by decide +kernel), aT, if_neg (by decide +kernel), aT, if_pos rfl]
 ·rw [aT, if_neg (by decide +kernel), aT, if_pos rfl]
 ·rw [aT, if_pos rfl]
 ·rw [kO e2, l2]; exact F.few
 ·have g : ∀ y : Str, y ∈ corFlds -> ¬ f = y := fun y hy z => hf (by rw [z]; exact hy)
  rw [aT, if_neg (g _ (by decide +kernel)), aT, if_neg (g _ (by decide +kernel)), aT, if_neg (g _ (by decide +kernel))]
  exact F.no f hf
end
structure CTx (K : PySem.W.Frag) (C : Addr) : Prop where
 cl : Cls K C
 vectors : NoAttr K C "vectors"
 places : NoAttr K C "places"
 inverse : NoAttr K C "inverse"
 det : NoAttr K C "determinant"
structure VAt (K : PySem.W.Frag) (H : Hp) (va : Addr) (as : List Addr) (vs : List (List Int)) (d e : Nat) : Prop where
 lst : SqL K H va (as.map V.ref)
 pts : PtsAt K H as vs
 dim : Dim d vs
 lim : Lim e vs
 few : vs.length <= 100
 line : e * (vs.length + 2) + 2 * vs.length + 4 <= 2900
 dd : d <= 900
 ne : vs ≠ []
section
variable {K : PySem.W.Frag} {H H' : Hp} {va a C dx : Addr} {as : List Addr} {vs : List (List Int)} {d e : Nat} {fs : List (Str × V)}
theorem VAt.same (q : VAt K H va as vs d e) (s : Same H H') : VAt K H' va as vs d e := ⟨s.seq q.lst, q.pts.same s, q.dim, q.lim, q.few, q.line, q.dd, q.ne⟩
theorem VAt.off (q : VAt K H va as vs d e) (o : OffD a H H') (ea : H a = some (.ins C dx fs)) : VAt K H' va as vs d e := ⟨o.seq ea q.lst, o.pts ea q.pts, q.dim, q.lim, q.few, q.line, q.dd, q.ne⟩
theorem VAt.len (q : VAt K H va as vs d e) : as.length = vs.length := Paired.length q.pts
def Pl (vs : List (List Int)) (ps : List Nat) : Prop := ∀ p ∈ ps, p < vs.length
theorem jB {ps : List Nat} (hp : Pl vs ps) {x : List Int} (h : x ∈ aF vs ps) : x ∈ vs := by
 unfold aF at h
 obtain ⟨p, hm, rfl⟩ := List.mem_map.mp h
 have := hp p hm
 rw [List.getD_eq_getElem?_getD, List.getElem?_eq_getElem this]; exact List.getElem_mem this
theorem gB {ps : List Nat} (hd : Dim d vs) (hp : Pl vs ps) : Dim d (aF vs ps) := fun x hx => hd x (jB hp hx)
theorem gA {ps : List Nat} (hl : Lim e vs) (hp : Pl vs ps) : Lim e (aF vs ps) := fun x hx => hl x (jB hp hx)
theorem pick_app (vs : List (List Int)) (ps : List Nat) (j : Nat) : aF vs (ps ++ [j]) = aF vs ps ++ [vs.getD j []] := by unfold aF; rw [List.map_append]; rfl
theorem pick_erase (vs : List (List Int)) (ps : List Nat) (i : Nat) : aF vs (ps.eraseIdx i) = (aF vs ps).eraseIdx i := by
 unfold aF
 refine List.ext_getElem? fun a => ?_
 rw [List.getElem?_map, jV, jV, List.getElem?_map]
end
section
variable (K : PySem.W.Frag) (C : Addr)
abbrev B29 (l : List Int) : Prop := ∀ x ∈ l, Bits 2900 x
def iX : Sp := fun vs H Q _ => ∃ (a b : Addr) (b1 b2 : Bool) (xs ys : List Int), vs = [.ref a, .ref b] /\ SqB K b1 H a (xs.map V.int) /\ SqB K b2 H b (ys.map V.int) /\ xs.length <= 1000 /\ (∀ x ∈ xs, Bits 9000 x) /\ (∀ y ∈ ys, Bits 9000 y) /\
 ∀ H', Same H H' -> Q (.int (dot xs ys)) H'
def jN : Sp := fun vs H Q _ => ∃ (a : Addr) (b1 : Bool) (xs : List Int), vs = [.ref a] /\ SqB K b1 H a (xs.map V.int) /\ xs.length <= 1000 /\ (∀ x ∈ xs, Bits 9000 x) /\ ∀ H', Same H H' -> Q (.int (dot xs xs)) H'
def spMixW : Sp := fun vs H Q _ => ∃ (a b : Addr) (as : List Addr) (ws : List (List Int)) (ts : List Int) (n : Nat), vs = [.ref a, .ref b] /\ SqL K H a (as.map V.ref) /\ PtsAt K H as ws /\ ws ≠ [] /\ (∀ v ∈ ws, v.length = n) /\ SqL K H b (ts.map V.int) /\ ts.length = ws.length /\ ws.length <= 1000 /\ n <= 1000 /\
 (∀ v ∈ ws, ∀ x ∈ v, Bits 9000 x) /\ (∀ t ∈ ts, Bits 9000 t) /\ ∀ r H' S, Same H H' -> H r = none -> H' r = some (.lst (S.map V.int)) -> Spot n ws ts S -> Q (.ref r) H'
def nZ : Sp := fun vs H Q _ => ∃ (a b : Addr) (xs ys : List Int) (t u D : Int), vs = [.ref a, .int t, .ref b, .int u, .int D] /\ SqL K H a (xs.map V.int) /\ SqL K H b (ys.map V.int) /\ xs.length <= 1000 /\ Bits 2900 t /\ Bits 2900 u /\ B29 xs /\ B29 ys /\ 0 < D /\ Bits 2900 D /\
 ∀ r H', Same H H' -> H r = none -> H' r = some (.lst ((List.zipWith (fun x y => (t * x + u * y) / D) xs ys).map V.int)) -> Q (.ref r) H'
def i6 : Sp := fun vs H Q _ => ∃ (a va : Addr) (ps : List Nat) (tab : List (List Int)) (D : Int) (as : List Addr), vs = [.ref a] /\ CAt C H a va ps tab D /\ SqL K H va (as.map V.ref) /\ (∀ p ∈ ps, p < as.length) /\ ps.length <= 900 /\
 ∀ r H', Same H H' -> H r = none -> H' r = some (.lst ((ps.map fun p => as.getD p 0).map V.ref)) -> Q (.ref r) H'
def mI : Sp := fun vs H Q _ => ∃ (a va : Addr) (ps : List Nat) (tab : List (List Int)) (D : Int), vs = [.ref a] /\ CAt C H a va ps tab D /\ tab.length <= 900 /\
 ∀ r H', Same H H' -> H r = none -> H' r = some (.lst ((tab.map List.sum).map V.int)) -> Q (.ref r) H'
abbrev CRt (d : Nat) (H : Hp) (a va : Addr) (vs : List (List Int)) (ps : List Nat) : Prop := CAt C H a va ps (cJ d (aF vs ps)) (cD d (aF vs ps))
def lF : Sp := fun us H Q _ => ∃ (a va : Addr) (as : List Addr) (vs : List (List Int)) (ps : List Nat) (d e j : Nat), us = [.ref a, .int j] /\ CRt C d H a va vs ps /\ VAt K H va as vs d e /\ Pl vs ps /\ j < vs.length /\ 0 < cD d (aF vs ps) /\ 0 < cD d (aF vs (ps ++ [j])) /\
 ∀ H', OffD a H H' -> CRt C d H' a va vs (ps ++ [j]) -> Q .non H'
def spDrop : Sp := fun us H Q _ => ∃ (a va : Addr) (as : List Addr) (vs : List (List Int)) (ps : List Nat) (d e i : Nat), us = [.ref a, .int i] /\ CRt C d H a va vs ps /\ VAt K H va as vs d e /\ Pl vs ps /\ i < ps.length /\ 0 < cD d (aF vs ps) /\
 ∀ H', OffD a H H' -> CRt C d H' a va vs (ps.eraseIdx i) -> Q .non H'
def mJ : Sp := fun us H Q _ => ∃ (a va t : Addr) (as : List Addr) (vs : List (List Int)) (ps : List Nat) (es : List Int) (d e : Nat), us = [.ref a, .ref t] /\ CRt C d H a va vs ps /\ VAt K H va as vs d e /\ Pl vs ps /\ 0 < cD d (aF vs ps) /\ SqL K H t (es.map V.int) /\ es.length = ps.length /\
 ∀ r H', OffD a H H' -> CRt C d H' a va vs (kept ps es) -> H' r = some (.lst ((es.filter (· ≠ 0)).map V.int)) -> Q (.ref r) H'
def spFE : Sp := fun us H Q _ => ∃ (t m : Addr) (ts as : List Int), us = [.ref t, .ref m] /\ SqL K H t (ts.map V.int) /\ SqL K H m (as.map V.int) /\ 0 < ts.length /\ ts.length <= 900 /\ ts.length = as.length /\ (∀ x ∈ ts, Bits 1000000 x) /\ (∀ x ∈ as, Bits 1000000 x) /\ Q (.int (fe ts as (ts.length - 1) : Nat)) H
def spAE : Sp := fun us H Q _ => ∃ (t m : Addr) (ts as : List Int), us = [.ref t, .ref m] /\ SqL K H t (ts.map V.int) /\ SqL K H m (as.map V.int) /\ 0 < ts.length /\ ts.length <= 900 /\ ts.length = as.length /\ (∀ x ∈ ts, Bits 1000000 x) /\ (∀ x ∈ as, Bits 1000000 x) /\
 ∀ r H', Same H H' -> H r = none -> H' r = some (.lst ((cM ts as).map V.int)) -> Q (.ref r) H'
def qA : Sp := fun us H Q _ => ∃ (a va t : Addr) (as : List Addr) (vs : List (List Int)) (ps : List Nat) (ts : List Int) (d e m : Nat) (p r : Int), us = [.ref a, .ref t] /\ CRt C d H a va vs ps /\ VAt K H va as vs d e /\ Pl vs ps /\ ArrOk d p r (aF vs ps) ts /\ SqL K H t (ts.map V.int) /\ (∀ x ∈ ts, Bits m x) /\ m + 2901 * ps.length <= 900000 /\
 ∀ l ps' H', OffD a H H' -> CRt C d H' a va vs ps' -> Pl vs ps' -> H' l = some (.lst ((aO d (aF vs ps')).map V.int)) -> Good d (aF vs ps') -> cD d (aF vs ps') * r < p * cT d (aF vs ps') -> Arr d vs ps ts ps' -> Q (.ref l) H'
def spSearch : Sp := fun us H Q _ => ∃ (a va t : Addr) (as : List Addr) (vs : List (List Int)) (ps : List Nat) (d e : Nat), us = [.ref a, .ref t] /\ CRt C d H a va vs ps /\ VAt K H va as vs d e /\ Pl vs ps /\ Good d (aF vs ps) /\ H t = some (.lst ((aO d (aF vs ps)).map V.int)) /\
 ∀ l ps' H', OffD a H H' -> CRt C d H' a va vs ps' -> H' l = some (.lst ((aO d (aF vs ps')).map V.int)) -> Last d vs ps' -> Srch d vs ps ps' -> Q (.ref l) H'
def kL : Sp := fun us H Q _ => ∃ va : Addr, us = [.ref va] /\ ∀ r H', Same H H' -> H r = none -> CAt C H' r va [] [] 1 -> Q (.ref r) H'
end
def d9 (n : Nat) (T : Int) (qs : List (Nat × Int)) : List (Int × Int) := qs.foldl (fun acc q => acc.set q.1 (aL q.2 T, aI q.2 T)) (List.replicate n (0, 1))
def shareL (d : Nat) (vs : List (List Int)) (ps : List Nat) : List (Int × Int) := d9 vs.length (cT d (aF vs ps)) (ps.zip (aO d (aF vs ps)))
def TupsAt (H : Hp) (ss : List Addr) (fs : List (Int × Int)) : Prop := Paired (fun a f => H a = some (.tup [.int f.1, .int f.2])) ss fs
def spNear (K : PySem.W.Frag) : Sp := fun us H Q _ => ∃ (va : Addr) (as : List Addr) (vs : List (List Int)) (d e : Nat), us = [.ref va] /\ VAt K H va as vs d e /\
 ∀ r H' (ss : List Addr) (ps : List Nat), Same H H' -> H r = none -> H' r = some (.lst (ss.map V.ref)) -> TupsAt H' ss (shareL d vs ps) -> Found d vs ps -> Q (.ref r) H'
end Mw
namespace Mw
def wtF (n : Nat) (qs : List (Nat × Int)) : List Int := qs.foldl (fun acc q => acc.set q.1 q.2) (List.replicate n 0)
theorem i0 (n : Nat) (qs : List (Nat × Int)) (q : Nat × Int) : wtF n (qs ++ [q]) = (wtF n qs).set q.1 q.2 := by
 unfold wtF; rw [List.foldl_append]; rfl
theorem c7 {α : Type} {P : List α -> Prop} (h0 : P []) (hs : ∀ l a, P l -> P (l ++ [a])) : ∀ l, P l := fun l => by
 rw [<- List.reverse_reverse l]
 induction l.reverse with
 | nil => exact h0
 | cons a t ih => rw [List.reverse_cons]; exact hs _ _ ih
theorem oZ (n : Nat) (qs : List (Nat × Int)) : (wtF n qs).length = n := by
 refine c7 (P := fun qs => (wtF n qs).length = n) ?_ (fun l a h => ?_) qs
 ·show (List.replicate n (0 : Int)).length = n; simp
 ·rw [i0, List.length_set]; exact h
theorem dJ {T : Int} (h : 0 < T) : aL 0 T = 0 /\ aI 0 T = 1 := by
 have e : fac 0 T = T := by unfold fac; rw [if_neg (by omega), Int.gcd_zero_left]; omega
 unfold aL aI
 rw [e]
 exact ⟨Int.zero_ediv _, Int.ediv_self (by omega)⟩
theorem shareF_wt {n : Nat} {T : Int} (h : 0 < T) (qs : List (Nat × Int)) : d9 n T qs = (wtF n qs).map fun w => (aL w T, aI w T) := by
 refine c7 (P := fun qs => d9 n T qs = (wtF n qs).map fun w => (aL w T, aI w T)) ?_ (fun l a ih => ?_) qs
 ·show List.replicate n ((0 : Int), (1 : Int)) = (List.replicate n (0 : Int)).map _
  rw [List.map_replicate, (dJ h).1, (dJ h).2]
 ·have e : d9 n T (l ++ [a]) = (d9 n T l).set a.1 (aL a.2 T, aI a.2 T) := by unfold d9; rw [List.foldl_append]; rfl
  rw [e, ih, i0, List.map_set]
theorem nN {l : List Int} {p i : Nat} {x : Int} (hp : p < l.length) : (l.set p x).getD i 0 = if p = i then x else l.getD i 0 := by
 rw [List.getD_eq_getElem?_getD, List.getElem?_set, List.getD_eq_getElem?_getD]
 by_cases h : p = i
 ·subst h
  rw [if_pos rfl, if_pos rfl, if_pos hp]; rfl
 ·rw [if_neg h, if_neg h]
theorem wtF_free {n : Nat} (qs : List (Nat × Int)) : (∀ q ∈ qs, q.1 < n) -> ∀ p, p ∉ qs.map (·.1) -> (wtF n qs).getD p 0 = 0 := by
 refine c7 (P := fun qs => (∀ q ∈ qs, q.1 < n) -> ∀ p, p ∉ qs.map (·.1) -> (wtF n qs).getD p 0 = 0) (fun _ p _ => ?_) (fun l a ih h p hp => ?_) qs
 ·show (List.replicate n (0 : Int)).getD p 0 = 0
  rw [List.getD_eq_getElem?_getD, List.getElem?_replicate]
  split <;> rfl
 ·rw [i0, nN (by rw [oZ]; exact h a (by simp)), if_neg fun z => hp (by simp [z])]
  exact ih (fun q hq => h q (List.mem_append_left _ hq)) p fun z => hp (by rw [List.map_append]; exact List.mem_append_left _ z)
theorem wtF_mem {n : Nat} (qs : List (Nat × Int)) : ∀ w ∈ wtF n qs, w = 0 \/ w ∈ qs.map (·.2) := by
 refine c7 (P := fun qs => ∀ w ∈ wtF n qs, w = 0 \/ w ∈ qs.map (·.2)) (fun w hw => ?_) (fun l a ih w hw => ?_) qs
 ·exact .inl (List.mem_replicate.mp (show w ∈ List.replicate n (0 : Int) from hw)).2
 ·rw [i0] at hw
  rcases List.mem_or_eq_of_mem_set hw with z | z
  ·rcases ih w z with y | y
   ·exact .inl y
   ·exact .inr (by rw [List.map_append]; exact List.mem_append_left _ y)
  ·exact .inr (by simp [z])
theorem wtF_sm {n : Nat} (g : Nat -> Int) (qs : List (Nat × Int)) : (∀ q ∈ qs, q.1 < n) -> (qs.map (·.1)).Nodup -> sm n (fun i => (wtF n qs).getD i 0 * g i) = (qs.map fun q => q.2 * g q.1).sum := by
 refine c7 (P := fun qs => (∀ q ∈ qs, q.1 < n) -> (qs.map (·.1)).Nodup -> sm n (fun i => (wtF n qs).getD i 0 * g i) = (qs.map fun q => q.2 * g q.1).sum) (fun _ _ => ?_) (fun l a ih h hn => ?_) qs
 ·refine d7 fun i hi => ?_
  show (List.replicate n (0 : Int)).getD i 0 * g i = 0
  rw [List.getD_eq_getElem?_getD, List.getElem?_replicate, if_pos hi]
  exact Int.zero_mul _
 ·have ha := h a (by simp)
  have hl : ∀ q ∈ l, q.1 < n := fun q hq => h q (List.mem_append_left _ hq)
  rw [List.map_append, List.nodup_append] at hn
  have hfree : a.1 ∉ l.map (·.1) := fun z => hn.2.2 _ z _ (by simp) rfl
  have h0 := wtF_free l hl a.1 hfree
  have ih' := ih hl hn.1
  rw [List.map_append, List.sum_append, <- ih']
  have e : sm n (fun i => (wtF n (l ++ [a])).getD i 0 * g i) = sm n (fun i => (wtF n l).getD i 0 * g i + if i = a.1 then a.2 * g a.1 else 0) := aK fun i hi => by
   rw [i0, nN (by rw [oZ]; exact ha)]
   by_cases z : a.1 = i
   ·subst z
    rw [if_pos rfl, if_pos rfl, h0]; omega
   ·rw [if_neg z, if_neg fun y => z y.symm]; omega
  rw [e, e6, d8 (f := fun i => if i = a.1 then a.2 * g a.1 else 0) ha fun i _ hne => if_neg hne]
  show _ + (if a.1 = a.1 then a.2 * g a.1 else 0) = _ + (a.2 * g a.1 + 0)
  rw [if_pos rfl]; omega
def wts (d : Nat) (vs : List (List Int)) (ps : List Nat) : List Int := wtF vs.length (ps.zip (aO d (aF vs ps)))
section
variable {d : Nat} {vs : List (List Int)} {ps : List Nat}
theorem zip_fst (h : ps.length = (aO d (aF vs ps)).length) : (ps.zip (aO d (aF vs ps))).map (·.1) = ps := by
 rw [List.map_fst_zip]; omega
theorem aims_len (vs : List (List Int)) (ps : List Nat) : ps.length = (aO d (aF vs ps)).length := by rw [dQ, bF]
theorem oB (h : Last d vs ps) : shareL d vs ps = (wts d vs ps).map fun w => (aL w (cT d (aF vs ps)), aI w (cT d (aF vs ps))) := shareF_wt h.good.tpos _
theorem iV : (wts d vs ps).length = vs.length := oZ _ _
theorem wts_nonneg (h : Last d vs ps) : ∀ w ∈ wts d vs ps, 0 <= w := fun w hw => by
 rcases wtF_mem _ w hw with z | z
 ·omega
 ·obtain ⟨q, hq, rfl⟩ := List.mem_map.mp z
  have := h.good.all _ (List.of_mem_zip hq).2
  show 0 <= q.2
  omega
theorem wts_sm (h : Last d vs ps) (g : Nat -> Int) : sm vs.length (fun i => (wts d vs ps).getD i 0 * g i) = (List.zipWith (fun a p => a * g p) (aO d (aF vs ps)) ps).sum := by
 have hl := aims_len (d := d) vs ps
 have e := wtF_sm (n := vs.length) g (ps.zip (aO d (aF vs ps))) (fun q hq => h.below _ (List.of_mem_zip hq).1) (by rw [zip_fst hl]; exact places_nodup h.good.pos)
 show sm vs.length (fun i => (wtF vs.length (ps.zip (aO d (aF vs ps)))).getD i 0 * g i) = _
 rw [e, List.zip_eq_zipWith, List.map_zipWith, List.zipWith_comm]
theorem wts_sum (h : Last d vs ps) : (wts d vs ps).sum = cT d (aF vs ps) := by
 have e := wts_sm h fun _ => 1
 rw [<- mK, iV]
 rw [aK fun i _ => (Int.mul_one ((wts d vs ps).getD i 0)).symm, e]
 show _ = (aO d (aF vs ps)).sum
 have hl := aims_len (d := d) vs ps
 generalize aO d (aF vs ps) = l at *
 clear e h
 induction l generalizing ps with
 | nil => cases ps with
  | nil => rfl
  | cons p ps => simp at hl
 | cons a l ih => cases ps with
  | nil => simp at hl
  | cons p ps =>
   rw [List.zipWith_cons_cons, List.sum_cons, List.sum_cons, ih (by simpa using hl)]; omega
end
theorem lcm_step {L y T : Int} (hL : 0 < L) (hy : 0 < y) (h1 : L ∣ T) (h2 : y ∣ T) : 0 < L / (Int.gcd L y : Int) * y /\ L ∣ L / (Int.gcd L y : Int) * y /\ y ∣ L / (Int.gcd L y : Int) * y /\ L / (Int.gcd L y : Int) * y ∣ T := by
 have g1 : (Int.gcd L y : Int) ∣ L := Int.gcd_dvd_left _ _
 have g2 : (Int.gcd L y : Int) ∣ y := Int.gcd_dvd_right _ _
 have gp : 0 < (Int.gcd L y : Int) := by have := Int.gcd_pos_of_ne_zero_right L (show y ≠ 0 by omega); omega
 have q1 := Int.ediv_mul_cancel g1
 have q2 := Int.ediv_mul_cancel g2
 have hX : 0 < L / (Int.gcd L y : Int) := Int.pos_of_mul_pos_left (b := (Int.gcd L y : Int)) (by rw [q1]; exact hL) gp
 have e : L / (Int.gcd L y : Int) * y = L * (y / (Int.gcd L y : Int)) := by
  generalize (Int.gcd L y : Int) = g at *
  generalize L / g = X at *
  generalize y / g = Y at *
  subst q1
  grind
 refine ⟨Int.mul_pos hX hy, ⟨_, e⟩, ⟨L / (Int.gcd L y : Int), Int.mul_comm _ _⟩, ?_⟩
 have n1 : L.natAbs ∣ T.natAbs := Int.natAbs_dvd_natAbs.mpr h1
 have n2 : y.natAbs ∣ T.natAbs := Int.natAbs_dvd_natAbs.mpr h2
 have n3 := Nat.lcm_dvd n1 n2
 have e2 : (L / (Int.gcd L y : Int) * y).natAbs = Nat.lcm L.natAbs y.natAbs := by
  rw [Int.natAbs_mul, Int.natAbs_ediv_of_dvd g1]
  show L.natAbs / Nat.gcd L.natAbs y.natAbs * y.natAbs = _
  unfold Nat.lcm
  have : Nat.gcd L.natAbs y.natAbs ∣ L.natAbs := Nat.gcd_dvd_left _ _
  rw [Nat.div_mul_right_comm this]
 exact Int.natAbs_dvd_natAbs.mp (by rw [e2]; exact n3)
end Mw
namespace L2
open PySem
theorem len1 {A B : Type} {x0 : B} {P : List A -> Prop} (h : ∀ a0, P [a0]) : ∀ us : List A, us.length = [x0].length -> P us
 | [], e => by simp at e
 | [a0], _ => h a0
 | _ :: _ :: _, e => by simp at e
theorem len2 {A B : Type} {x0 x1 : B} {P : List A -> Prop} (h : ∀ a0 a1, P [a0, a1]) : ∀ us : List A, us.length = [x0, x1].length -> P us
 | [], e => by simp at e
 | [_], e => by simp at e
 | [a0, a1], _ => h a0 a1
 | _ :: _ :: _ :: _, e => by simp at e
theorem len3 {A B : Type} {x0 x1 x2 : B} {P : List A -> Prop} (h : ∀ a0 a1 a2, P [a0, a1, a2]) : ∀ us : List A, us.length = [x0, x1, x2].length -> P us
 | [], e => by simp at e
 | [_], e => by simp at e
 | [_, _], e => by simp at e
 | [a0, a1, a2], _ => h a0 a1 a2
 | _ :: _ :: _ :: _ :: _, e => by simp at e
theorem len4 {A B : Type} {x0 x1 x2 x3 : B} {P : List A -> Prop} (h : ∀ a0 a1 a2 a3, P [a0, a1, a2, a3]) : ∀ us : List A, us.length = [x0, x1, x2, x3].length -> P us
 | [], e => by simp at e
 | [_], e => by simp at e
 | [_, _], e => by simp at e
 | [_, _, _], e => by simp at e
 | [a0, a1, a2, a3], _ => h a0 a1 a2 a3
 | _ :: _ :: _ :: _ :: _ :: _, e => by simp at e
theorem len5 {A B : Type} {x0 x1 x2 x3 x4 : B} {P : List A -> Prop} (h : ∀ a0 a1 a2 a3 a4, P [a0, a1, a2, a3, a4]) : ∀ us : List A, us.length = [x0, x1, x2, x3, x4].length -> P us
 | [], e => by simp at e
 | [_], e => by simp at e
 | [_, _], e => by simp at e
 | [_, _, _], e => by simp at e
 | [_, _, _, _], e => by simp at e
 | [a0, a1, a2, a3, a4], _ => h a0 a1 a2 a3 a4
 | _ :: _ :: _ :: _ :: _ :: _ :: _, e => by simp at e
end L2
namespace Mw
def nW (p l : Nat) : Nat := if l < p then l else l - 1
theorem pY (p i : Nat) : nW p (skp p i) = i := by
 unfold nW skp
 by_cases h : i < p
 ·rw [if_pos h, if_pos h]
 ·rw [if_neg h, if_neg (by omega)]; omega
theorem rel_ex : ∀ (D k : Nat) (w : Nat -> Vec), D < k -> ∃ a : Nat -> Int, (∃ i, i < k /\ a i ≠ 0) /\ ∀ t, t < D -> sm k (fun i => a i * w i t) = 0
 | 0, k, w, h => ⟨fun _ => 1, ⟨0, h, by decide⟩, fun t ht => absurd ht (by omega)⟩
 | D + 1, 0, w, h => absurd h (by omega)
 | D + 1, n + 1, w, h => by
  by_cases c : ∀ i, i < n + 1 -> w i D = 0
  ·obtain ⟨a, h1, h2⟩ := rel_ex D (n + 1) w (by omega)
   refine ⟨a, h1, fun t ht => ?_⟩
   by_cases e : t = D
   ·subst e
    exact d7 fun i hi => by rw [c i hi, Int.mul_zero]
   ·exact h2 t (by omega)
  ·have ⟨p, hp, hne⟩ : ∃ p, p < n + 1 /\ w p D ≠ 0 := by
    refine Classical.byContradiction fun q => c fun i hi => ?_
    exact Classical.byContradiction fun z => q ⟨i, hi, z⟩
   obtain ⟨b, ⟨j, hj, hbj⟩, h2⟩ := rel_ex D n (fun i t => w p D * w (skp p i) t - w (skp p i) D * w p t) (by omega)
   refine ⟨fun l => if l = p then -sm n (fun i => b i * w (skp p i) D) else b (nW p l) * w p D, ⟨skp p j, dI hj (by omega), ?_⟩, fun t ht => ?_⟩
   ·show (if skp p j = p then _ else b (nW p (skp p j)) * w p D) ≠ 0
    rw [if_neg (skp_ne p j), pY]
    exact Int.mul_ne_zero hbj hne
   ·rw [sm_skp hp]
    have e1 : sm n (fun i => (fun l => (if l = p then -sm n (fun i => b i * w (skp p i) D) else b (nW p l) * w p D) * w l t) (skp p i)) = sm n (fun i => b i * (w p D * w (skp p i) t - w (skp p i) D * w p t)) + sm n (fun i => b i * w (skp p i) D) * w p t := by
     rw [<- cV, <- e6]
     refine aK fun i hi => ?_
     show (if skp p i = p then _ else _) * _ = _
     rw [if_neg (skp_ne p i), pY]
     generalize w (skp p i) D = u
     generalize w (skp p i) t = v
     generalize w p t = x
     generalize w p D = y
     generalize b i = z
     grind
    have e2 : sm n (fun i => b i * (w p D * w (skp p i) t - w (skp p i) D * w p t)) = 0 := by
     by_cases e : t = D
     ·subst e
      exact d7 fun i hi => by rw [Int.mul_comm (w p t), Int.sub_self, Int.mul_zero]
     ·exact h2 t (by omega)
    rw [e1, e2]
    show (if p = p then -sm n (fun i => b i * w (skp p i) D) else _) * w p t + _ = 0
    rw [if_pos rfl]
    generalize sm n (fun i => b i * w (skp p i) D) = A
    rw [Int.neg_mul]; omega
theorem few_dim {D k : Nat} {w : Nat -> Vec} (hD : gD D k w ≠ 0) : k <= D := by
 refine Nat.not_lt.mp fun h => ?_
 obtain ⟨a, ⟨i, hi, ha⟩, h2⟩ := rel_ex D k w h
 have h3 : ∀ j, j < k -> sm k (fun l => a l * gm D w l j) = 0 := fun j hj => by
  have := mR (d := D) k a w (w j)
  show sm k (fun l => a l * ip D (w l) (w j)) = 0
  rw [<- this]
  exact d7 fun t ht => by
   show lc k a w t * _ = 0
   rw [show lc k a w t = 0 from h2 t ht, Int.zero_mul]
 have h4 : sm k (fun j => sm k (fun l => a l * gm D w l j) * adj k (gm D w) j i) = 0 := d7 fun j hj => by rw [h3 j hj, Int.zero_mul]
 have h5 : sm k (fun j => sm k (fun l => a l * gm D w l j) * adj k (gm D w) j i) = a i * gD D k w := by
  rw [aK (g := fun j => sm k (fun l => a l * gm D w l j * adj k (gm D w) j i)) fun j _ => (cV k _ _).symm, eO]
  rw [d8 hi]
  ·rw [aK (g := fun j => a i * (gm D w i j * adj k (gm D w) j i)) fun j _ => Int.mul_assoc _ _ _, bT, dE hi hi, if_pos rfl]
  ·intro l hl hne
   rw [aK (g := fun j => a l * (gm D w l j * adj k (gm D w) j i)) fun j _ => Int.mul_assoc _ _ _, bT, dE hl hi, if_neg hne, Int.mul_zero]
 rw [h5] at h4
 rcases Int.mul_eq_zero.mp h4 with e | e
 ·exact ha e
 ·exact hD e
theorem Good.few {d : Nat} {xs : List (List Int)} (g : Good d xs) : xs.length <= d + 1 := few_dim (Int.ne_of_gt g.pos)
theorem tot_small {d e : Nat} {xs : List (List Int)} (g : Good d xs) (hl : Lim e xs) (hd : d <= 4) (he : e <= 24) : (cT d xs).natAbs < 2 ^ 125 := by
 have h1 := cT_abs g.dim hl g.pos
 have h2 := g.few
 have h3 : xs.length <= 5 := by omega
 have h4 : e * xs.length <= 120 := Nat.le_trans (Nat.mul_le_mul he h3) (by decide)
 have h5 : 2 ^ (e * xs.length) <= 2 ^ 120 := Nat.pow_le_pow_right (by decide) h4
 have h6 : xs.length * (xs.length * 2 ^ (e * xs.length)) <= 5 * (5 * 2 ^ 120) := Nat.mul_le_mul h3 (Nat.mul_le_mul h3 h5)
 exact Nat.lt_of_le_of_lt h1 (Nat.lt_of_le_of_lt h6 (by decide))
end Mw
namespace L2
open PySem PySem.Spec PyProof.Rows
theorem qP {val : Nat -> Int} {c : Int} : ∀ {i : Nat}, (∀ j, j < i -> val j = c) -> (firstMet val i = [] \/ firstMet val i = [c])
 | 0, _ => .inl (firstMet_zero val)
 | i + 1, h => by
  rw [firstMet_succ, h i (Nat.lt_succ_self _)]
  rcases qP (val := val) (c := c) (i := i) (fun j hj => h j (Nat.lt_succ_of_lt hj)) with e | e
  ·rw [e]; exact .inr (by simp [step_dedup])
  ·rw [e]; exact .inr (by simp [step_dedup])
section
variable {X : Cx} {K : PySem.W.Frag}
theorem call_setK (hK : X.K = K) (hc : X.calm = true) : dX X (.type "set") (fun xs H Q => ∃ (a : Addr) (ns : List Int), xs = [.ref a] /\ SqL K H a (ns.map V.int) /\ ns.length <= 1000 /\ ∀ l S n, H l = none -> ((∃ c, ∀ x ∈ ns, x = c) -> n < 2) -> Q (.ref l) (upd H l (.set S n))) := by
 subst hK
 intro pins s σ H xs us Q I r h
 obtain ⟨a, ns, rfl, hs, hn, q⟩ := h
 obtain ⟨u, rfl, r1⟩ := fS r
 obtain rfl : u = Value.ref a := r1
 obtain ⟨its, rv, p, hz⟩ := I.list hs
 have hi := eE rv
 have hlen : its.length = ns.length := by have := rv.length; rw [List.length_map] at this; omega
 have hsz : its.toArray.size = ns.length := by rw [List.size_toArray, hlen]
 refine call_set_list (I.ok.hd hc) p.isList hi (by rw [hsz]; show ns.length + 1 < 4096; omega) fun h' tk hS kp => ?_
 refine ⟨.ref s.heap.objs.size, _, I.laid (t' := tk) (fun b o e => kp b o (Heap.lt_size e) e) (Nat.le_refl _) (show ObjOk X.prog X.w _ h' _ (.set _ _) from hS), rfl, q _ _ _ (I.hok.fresh (Nat.le_refl _)) ?_⟩
 rintro ⟨c, hc⟩
 rw [hsz]
 rcases qP (val := fun i => ns.getD i 0) (c := c) (i := ns.length) (fun j hj => hc _ (by
  show ns.getD j 0 ∈ ns
  rw [List.getD_eq_getElem?_getD, List.getElem?_eq_getElem hj]; exact List.getElem_mem hj)) with e | e
 ·rw [e]; exact (by decide : 0 < 2)
 ·rw [e]; exact (by decide : 1 < 2)
theorem call_lenSet : dX X (.builtin "len") (fun xs H Q => ∃ p S n, xs = [.ref p] /\ H p = some (.set S n) /\ Q (.int (n : Nat)) H) := by
 intro pins s σ H xs us Q I r h
 obtain ⟨p, S, n, rfl, hp, q⟩ := h
 obtain ⟨u, rfl, rx⟩ := fS r
 cases rx
 obtain ⟨o, es, ep, t, ho, hex, hd, _, _, hb, hf, en⟩ : s.heap.SetOf (intKind X.prog X.w) p S n := I.hok p _ hp
 have hb : es.size < 4096 := hb
 exact call_len_set ho hex hd hf (by omega) ⟨.int (n : Nat), H, I.tok _, ⟨s.toks + 1, by rw [en]⟩, q⟩
end
end L2
namespace Mw
open PySem L2
def top (i : Nat) : Stmt := PySem.Challenge.pw_mendweights_k30_widths_refused.main.body.getD i (.Pass ⟨0, 0, 0, 0⟩)
def mem (i j : Nat) : Stmt := match top i with
 | .ClassDef _ _ _ body _ _ _ _ _ _ _ => body.getD j (.Pass ⟨0, 0, 0, 0⟩)
 | _ => .Pass ⟨0, 0, 0, 0⟩
abbrev BN : List Str := ["abs", "len", "isinstance", "tuple", "list", "int", "range", "enumerate", "zip", "min", "max", "sum", "set", "ValueError"]
instance lamPos : LamPos := ⟨0, 0⟩
structure Prog (K : PySem.W.Frag) (mg : Str -> Option Value) (C_Corral X_MendError X_NoFraction X_NoSide X_OneSide X_NoPoint X_NoRow X_NoTable X_NoText X_NotParted X_TooMany X_WrongBook : Addr) : Prop where
 c_Corral : ClsAt K mg "Corral" C_Corral
 x_MendError : ExR K mg "MendError" X_MendError
 x_NoFraction : ExR K mg "NoFraction" X_NoFraction
 x_NoSide : ExR K mg "NoSide" X_NoSide
 x_OneSide : ExR K mg "OneSide" X_OneSide
 x_NoPoint : ClN mg "NoPoint" X_NoPoint
 x_NoRow : ClN mg "NoRow" X_NoRow
 x_NoTable : ClN mg "NoTable" X_NoTable
 x_NoText : ClN mg "NoText" X_NoText
 x_NotParted : ClN mg "NotParted" X_NotParted
 x_TooMany : ClN mg "TooMany" X_TooMany
 x_WrongBook : ClN mg "WrongBook" X_WrongBook
 a_NoFraction : ExcA K X_NoFraction
 k_NoFraction_ValueError : PySem.W.kitOne K (.ref X_NoFraction) (.type "ValueError") = some true
 k_NoFraction_NoFraction : PySem.W.kitOne K (.ref X_NoFraction) (.ref X_NoFraction) = some true
 k_NoFraction_NoPoint : PySem.W.kitOne K (.ref X_NoFraction) (.ref X_NoPoint) = some false
 k_NoFraction_NoRow : PySem.W.kitOne K (.ref X_NoFraction) (.ref X_NoRow) = some false
 k_NoFraction_NoSide : PySem.W.kitOne K (.ref X_NoFraction) (.ref X_NoSide) = some false
 k_NoFraction_NoTable : PySem.W.kitOne K (.ref X_NoFraction) (.ref X_NoTable) = some false
 k_NoFraction_NoText : PySem.W.kitOne K (.ref X_NoFraction) (.ref X_NoText) = some false
 k_NoFraction_NotParted : PySem.W.kitOne K (.ref X_NoFraction) (.ref X_NotParted) = some false
 k_NoFraction_OneSide : PySem.W.kitOne K (.ref X_NoFraction) (.ref X_OneSide) = some false
 k_NoFraction_TooMany : PySem.W.kitOne K (.ref X_NoFraction) (.ref X_TooMany) = some false
 k_NoFraction_WrongBook : PySem.W.kitOne K (.ref X_NoFraction) (.ref X_WrongBook) = some false
 a_NoSide : ExcA K X_NoSide
 k_NoSide_ValueError : PySem.W.kitOne K (.ref X_NoSide) (.type "ValueError") = some true
 k_NoSide_NoFraction : PySem.W.kitOne K (.ref X_NoSide) (.ref X_NoFraction) = some false
 k_NoSide_NoPoint : PySem.W.kitOne K (.ref X_NoSide) (.ref X_NoPoint) = some false
 k_NoSide_NoRow : PySem.W.kitOne K (.ref X_NoSide) (.ref X_NoRow) = some false
 k_NoSide_NoSide : PySem.W.kitOne K (.ref X_NoSide) (.ref X_NoSide) = some true
 k_NoSide_NoTable : PySem.W.kitOne K (.ref X_NoSide) (.ref X_NoTable) = some false
 k_NoSide_NoText : PySem.W.kitOne K (.ref X_NoSide) (.ref X_NoText) = some false
 k_NoSide_NotParted : PySem.W.kitOne K (.ref X_NoSide) (.ref X_NotParted) = some false
 k_NoSide_OneSide : PySem.W.kitOne K (.ref X_NoSide) (.ref X_OneSide) = some false
 k_NoSide_TooMany : PySem.W.kitOne K (.ref X_NoSide) (.ref X_TooMany) = some false
 k_NoSide_WrongBook : PySem.W.kitOne K (.ref X_NoSide) (.ref X_WrongBook) = some false
 a_OneSide : ExcA K X_OneSide
 k_OneSide_ValueError : PySem.W.kitOne K (.ref X_OneSide) (.type "ValueError") = some true
 k_OneSide_NoFraction : PySem.W.kitOne K (.ref X_OneSide) (.ref X_NoFraction) = some false
 k_OneSide_NoPoint : PySem.W.kitOne K (.ref X_OneSide) (.ref X_NoPoint) = some false
 k_OneSide_NoRow : PySem.W.kitOne K (.ref X_OneSide) (.ref X_NoRow) = some false
 k_OneSide_NoSide : PySem.W.kitOne K (.ref X_OneSide) (.ref X_NoSide) = some false
 k_OneSide_NoTable : PySem.W.kitOne K (.ref X_OneSide) (.ref X_NoTable) = some false
 k_OneSide_NoText : PySem.W.kitOne K (.ref X_OneSide) (.ref X_NoText) = some false
 k_OneSide_NotParted : PySem.W.kitOne K (.ref X_OneSide) (.ref X_NotParted) = some false
 k_OneSide_OneSide : PySem.W.kitOne K (.ref X_OneSide) (.ref X_OneSide) = some true
 k_OneSide_TooMany : PySem.W.kitOne K (.ref X_OneSide) (.ref X_TooMany) = some false
 k_OneSide_WrongBook : PySem.W.kitOne K (.ref X_OneSide) (.ref X_WrongBook) = some false
 e_NoFraction_MendError : PySem.W.exmOne K (.ref X_NoFraction) (.ref X_MendError) = some true
 e_NoSide_MendError : PySem.W.exmOne K (.ref X_NoSide) (.ref X_MendError) = some true
 e_OneSide_MendError : PySem.W.exmOne K (.ref X_OneSide) (.ref X_MendError) = some true
 n_Corral_determinant : NoAttr K C_Corral "determinant"
 n_Corral_inverse : NoAttr K C_Corral "inverse"
 n_Corral_places : NoAttr K C_Corral "places"
 n_Corral_vectors : NoAttr K C_Corral "vectors"
 m_Corral___init__ : MethAt K C_Corral "__init__" "Corral.__init__" (mem 28 0)
 m_Corral_chosen : MethAt K C_Corral "chosen" "Corral.chosen" (mem 28 1)
 m_Corral_take : MethAt K C_Corral "take" "Corral.take" (mem 28 2)
 m_Corral_drop : MethAt K C_Corral "drop" "Corral.drop" (mem 28 3)
 m_Corral_drop_noughts : MethAt K C_Corral "drop_noughts" "Corral.drop_noughts" (mem 28 4)
 m_Corral_flat_tops : MethAt K C_Corral "flat_tops" "Corral.flat_tops" (mem 28 5)
def gE (n : Nat) (vs : List (List Int)) (ts : List Int) : List Int := (vs.zip ts).foldl (fun acc p => mv p.2 acc p.1) (List.replicate n 0)
theorem mixF_snoc {n : Nat} {vs : List (List Int)} {ts : List Int} {i : Nat} {v : List Int} {t : Int} (h1 : vs[i]? = some v) (h2 : ts[i]? = some t) : gE n (vs.take (i + 1)) (ts.take (i + 1)) = mv t (gE n (vs.take i) (ts.take i)) v := by
 have l1 := (List.getElem?_eq_some_iff.mp h1).1
 have l2 := (List.getElem?_eq_some_iff.mp h2).1
 unfold gE
 rw [b9 h1, b9 h2, List.zip_append (by rw [List.length_take, List.length_take]; omega), List.foldl_append]
 rfl
theorem mv_zero : ∀ {ws xs : List Int}, ws.length = xs.length -> mv 0 ws xs = ws
 | [], [], _ => rfl
 | [], _ :: _, h => by simp at h
 | _ :: _, [], h => by simp at h
 | w :: ws, x :: xs, h => by
  rw [mv_cons, mv_zero (by simpa using h)]; simp
theorem k8 {n : Nat} : ∀ {ps : List (List Int × Int)} {acc : List Int}, acc.length = n -> (∀ p ∈ ps, p.1.length = n) -> (ps.foldl (fun acc p => mv p.2 acc p.1) acc).length = n
 | [], acc, h, _ => h
 | p :: ps, acc, h, hp => k8 (ps := ps) (by show (mv p.2 acc p.1).length = n; rw [qJ (by rw [h, hp p (List.mem_cons_self ..)]), h]) fun q hq => hp q (List.mem_cons_of_mem _ hq)
theorem mixF_len {n : Nat} {vs : List (List Int)} {ts : List Int} (h : ∀ v ∈ vs, v.length = n) : (gE n vs ts).length = n :=
 k8 (by simp) fun p hp => h p.1 (List.of_mem_zip hp).1
def nS (vs : List (List Int)) (ts : List Int) (k : Nat) : Int := (List.zipWith (fun v t => t * v.getD k 0) vs ts).sum
theorem k9 {n k : Nat} (hk : k < n) : ∀ {vs : List (List Int)} {ts : List Int} {acc : List Int}, acc.length = n -> (∀ v ∈ vs, v.length = n) -> ((vs.zip ts).foldl (fun acc p => mv p.2 acc p.1) acc)[k]? = some (acc.getD k 0 + nS vs ts k)
 | [], ts, acc, h, _ => by
  simp [nS, List.getD_eq_getElem?_getD, h, hk]
 | v :: vs, [], acc, h, _ => by
  simp [nS, List.getD_eq_getElem?_getD, h, hk]
 | v :: vs, t :: ts, acc, h, hv => by
  have hl := hv v (List.mem_cons_self ..)
  rw [List.zip_cons_cons, List.foldl_cons, k9 hk (by show (mv t acc v).length = n; rw [qJ (by rw [h, hl]), h]) fun w hw => hv w (List.mem_cons_of_mem _ hw)]
  have e : (mv t acc v).getD k 0 = acc.getD k 0 + t * v.getD k 0 := by
   unfold mv
   rw [List.getD_eq_getElem?_getD, List.getElem?_zipWith, List.getD_eq_getElem?_getD, List.getD_eq_getElem?_getD, List.getElem?_eq_getElem (by omega), List.getElem?_eq_getElem (by omega)]; rfl
  rw [e]
  unfold nS
  rw [List.zipWith_cons_cons, List.sum_cons, Int.add_assoc]
theorem mixF_get {n k : Nat} {vs : List (List Int)} {ts : List Int} (hk : k < n) (h : ∀ v ∈ vs, v.length = n) : (gE n vs ts)[k]? = some (nS vs ts k) := by
 unfold gE
 rw [k9 hk (by simp) h]
 simp [List.getD_eq_getElem?_getD, hk]
theorem lT {n : Nat} {vs : List (List Int)} {ts : List Int} (h : ∀ v ∈ vs, v.length = n) (hl : ts.length = vs.length) : Spot n vs ts (gE n vs ts) := by
 refine ⟨mixF_len h, fun t ht => ?_⟩
 rw [List.getD_eq_getElem?_getD, mixF_get ht h, lV hl]
 show nS vs ts t = _
 unfold nS
 rw [List.zipWith_comm]
 congr 2
 funext a x
 unfold lfv
 rw [if_neg (by omega)]
theorem wk23 {σ : St} {x y : Option V} {a b c : Nat} {u v w : V} (h1 : σ[a]? = some (some u)) (h2 : σ[b]? = some (some v)) (h3 : σ[c]? = some (some w)) : Wk (aX [none, none, some a, some b, some c] σ) [x, y, some u, some v, some w] := by
 refine ⟨rfl, fun k z e => ?_⟩
 have e0 : aX [none, none, some a, some b, some c] σ = [none, none, some u, some v, some w] := by simp [aX, h1, h2, h3]
 rw [e0] at e
 match k, e with
 | 0, e => simp at e
 | 1, e => simp at e
 | 2, e => exact e
 | 3, e => exact e
 | 4, e => exact e
 | k + 5, e => simp at e
theorem zip_ys {f : Int -> Int -> Int} {xs zs : List Int} {ys : List V} (hl : ys.length = min xs.length zs.length) (h : ∀ (j : Nat) y x z, ys[j]? = some y -> xs[j]? = some x -> zs[j]? = some z -> y = V.int (f x z)) : ys = (List.zipWith f xs zs).map V.int := by
 refine List.ext_getElem? fun j => ?_
 rw [List.getElem?_map, List.getElem?_zipWith]
 by_cases hj : j < ys.length
 ·rw [List.getElem?_eq_getElem hj, List.getElem?_eq_getElem (show j < xs.length by omega), List.getElem?_eq_getElem (show j < zs.length by omega)]
  exact congrArg some (h j _ _ _ (List.getElem?_eq_getElem hj) (List.getElem?_eq_getElem (by omega)) (List.getElem?_eq_getElem (by omega)))
 ·rw [List.getElem?_eq_none (by omega)]
  by_cases hx : j < xs.length
  ·rw [List.getElem?_eq_none (l := zs) (by omega)]
   cases xs[j]? <;> rfl
  ·rw [List.getElem?_eq_none (l := xs) (by omega)]; rfl
section
variable {K : PySem.W.Frag} {H : Hp} {va : Addr} {as : List Addr} {vs : List (List Int)} {d e : Nat} {ps : List Nat} {v : List Int}
theorem VAt.vbits (q : VAt K H va as vs d e) (hv : v ∈ vs) {z : Int} (hz : z ∈ v) : Bits 2900 z := by
 have h := lM (B := 2 ^ e) (q.lim.sq hv) hz
 have := line_e q.line
 show z.natAbs < 2 ^ 2900
 omega
theorem VAt.sqb (q : VAt K H va as vs d e) (hv : v ∈ vs) : Bits 2900 (dot v v + 1) := by
 have h1 := q.lim v hv
 have h2 := fW v
 have := line_e q.line
 show (dot v v + 1).natAbs < 2 ^ 2900
 omega
theorem VAt.tab (q : VAt K H va as vs d e) (hp : Pl vs ps) (hD : 0 < cD d (aF vs ps)) {l : List Int} (hl : l ∈ cJ d (aF vs ps)) : l.length = ps.length /\ B29 l := by
 obtain ⟨h1, h2⟩ := tabN_abs (gB q.dim hp) (gA q.lim hp) hD hl
 have hk := b5 hp hD
 refine ⟨by rw [h1, bF], fun x hx => ?_⟩
 have := h2 x hx
 rw [bF] at this
 exact Nat.lt_of_le_of_lt this (line_one hk q.line)
theorem VAt.det (q : VAt K H va as vs d e) (hp : Pl vs ps) (hD : 0 < cD d (aF vs ps)) : Bits 2900 (cD d (aF vs ps)) := by
 have h := cD_abs (gB q.dim hp) (gA q.lim hp) hD
 rw [bF] at h
 exact Nat.lt_of_le_of_lt h (line_one (b5 hp hD) q.line)
theorem VAt.col (q : VAt K H va as vs d e) (hp : Pl vs ps) (hv : v ∈ vs) : B29 (gF (aF vs ps) v) := fun c hc => by
 have h := colL_abs (gB q.dim hp) (gA q.lim hp) (q.dim v hv) (q.lim v hv) c hc
 exact Nat.lt_of_le_of_lt h (line_e q.line)
theorem VAt.img (q : VAt K H va as vs d e) (hp : Pl vs ps) (hD : 0 < cD d (aF vs ps)) (hv : v ∈ vs) : B29 (bU d (aF vs ps) v) := fun c hc => by
 have h := imgL_abs (gB q.dim hp) (gA q.lim hp) hD (q.dim v hv) (q.lim v hv) c hc
 rw [bF] at h
 exact Nat.lt_of_le_of_lt h (line_img (b5 hp hD) q.line)
theorem VAt.aim (q : VAt K H va as vs d e) (hp : Pl vs ps) (hD : 0 < cD d (aF vs ps)) : B29 (aO d (aF vs ps)) := fun c hc => by
 have h := aimL_abs (gB q.dim hp) (gA q.lim hp) hD c hc
 rw [bF] at h
 exact Nat.lt_of_le_of_lt h (line_aim (b5 hp hD) q.line)
theorem VAt.tot (q : VAt K H va as vs d e) (hp : Pl vs ps) (hD : 0 < cD d (aF vs ps)) : Bits 2900 (cT d (aF vs ps)) := by
 have h := cT_abs (gB q.dim hp) (gA q.lim hp) hD
 rw [bF] at h
 exact Nat.lt_of_le_of_lt h (line_sum (b5 hp hD) q.line)
theorem VAt.get (q : VAt K H va as vs d e) {p : Nat} (h : p < vs.length) : vs.getD p [] ∈ vs /\ SqT K H (as.getD p 0) ((vs.getD p []).map V.int) /\ as[p]? = some (as.getD p 0) := by
 have hl := q.len
 have ha : p < as.length := by omega
 obtain ⟨w, hw, e1⟩ := paired_get q.pts (List.getElem?_eq_getElem ha)
 have e2 : vs.getD p [] = w := by rw [List.getD_eq_getElem?_getD, hw]; rfl
 have e3 : as.getD p 0 = as[p] := by rw [List.getD_eq_getElem?_getD, List.getElem?_eq_getElem ha]; rfl
 rw [e2, e3]
 exact ⟨List.mem_of_getElem? hw, e1, List.getElem?_eq_getElem ha⟩
theorem VAt.picks (q : VAt K H va as vs d e) : ∀ {ps : List Nat}, Pl vs ps -> PtsAt K H (ps.map fun p => as.getD p 0) (aF vs ps)
 | [], _ => .nil
 | p :: ps, h => .cons (q.get (h p (List.mem_cons_self ..))).2.1 (VAt.picks q fun r hr => h r (List.mem_cons_of_mem _ hr))
end
theorem Pl.app {vs : List (List Int)} {ps : List Nat} {j : Nat} (h : Pl vs ps) (hj : j < vs.length) : Pl vs (ps ++ [j]) := fun p hp => by
 rcases List.mem_append.mp hp with z | z
 ·exact h p z
 ·rw [List.mem_singleton.mp z]; exact hj
theorem Pl.erase {vs : List (List Int)} {ps : List Nat} (h : Pl vs ps) (i : Nat) : Pl vs (ps.eraseIdx i) := fun p hp => h p (List.mem_of_mem_eraseIdx hp)
theorem Pl.kept {vs : List (List Int)} {ps : List Nat} (h : Pl vs ps) (es : List Int) : Pl vs (kept ps es) := fun p hp => h p (jE hp)
def LinesOff (H : Hp) (lp : Addr) (ms : List Addr) (rows : List (List Int)) : Prop := Paired (fun l xs => l ≠ lp /\ H l = some (.lst (xs.map V.int))) ms rows
theorem LinesOff.same {H H' : Hp} {lp : Addr} {ms : List Addr} {rows : List (List Int)} (h : LinesOff H lp ms rows) (s : Same H H') : LinesOff H' lp ms rows := Paired.mapP h fun _ _ z => ⟨z.1, s _ _ z.2⟩
theorem LinesOff.upd {H : Hp} {lp : Addr} {ms : List Addr} {rows : List (List Int)} {o : HO} (h : LinesOff H lp ms rows) : LinesOff (upd H lp o) lp ms rows := Paired.mapP h fun _ _ z => ⟨z.1, by rw [aQ z.1]; exact z.2⟩
theorem LinesOff.lines {H : Hp} {lp : Addr} {ms : List Addr} {rows : List (List Int)} (h : LinesOff H lp ms rows) : LinesAt H ms rows := Paired.mapP h fun _ _ z => z.2
theorem LinesOff.snoc {H : Hp} {lp m : Addr} {ms : List Addr} {rows : List (List Int)} {xs : List Int} (h : LinesOff H lp ms rows) (n : m ≠ lp) (e : H m = some (.lst (xs.map V.int))) : LinesOff H lp (ms ++ [m]) (rows ++ [xs]) := k7 h (.cons ⟨n, e⟩ .nil)
theorem nQ {α : Type} (ns : List α) {hi : Int} (h0 : 0 <= hi) (h1 : hi <= (ns.length : Int)) : pR ns none (some hi) = ns.take hi.toNat := by
 unfold pR
 have e1 : HT.sIx ns.length ns.length (some hi) = hi.toNat := by
  show (if hi < 0 then (hi + (ns.length : Int)).toNat else min hi.toNat ns.length) = hi.toNat
  rw [if_neg (by omega)]; omega
 rw [e1]
 show (ns.drop 0).take (hi.toNat - 0) = _
 rw [List.drop_zero, Nat.sub_zero]
theorem kS {α : Type} (ns : List α) {lo : Int} (h0 : 0 <= lo) (h1 : lo <= (ns.length : Int)) : pR ns (some lo) none = ns.drop lo.toNat := by
 unfold pR
 have e1 : HT.sIx ns.length 0 (some lo) = lo.toNat := by
  show (if lo < 0 then (lo + (ns.length : Int)).toNat else min lo.toNat ns.length) = lo.toNat
  rw [if_neg (by omega)]; omega
 rw [e1]
 show (ns.drop lo.toNat).take (ns.length - lo.toNat) = _
 rw [List.take_of_length_le (by rw [List.length_drop]; exact Nat.le_refl _)]
theorem lQ {α β : Type} {R : α -> β -> Prop} : ∀ {as : List α} {bs : List β}, Paired R as bs -> ∀ i, Paired R (as.eraseIdx i) (bs.eraseIdx i)
 | _, _, .nil, _ => .nil
 | _, _, .cons r t, 0 => t
 | _, _, .cons r t, i + 1 => .cons r (lQ t i)
theorem l7 : ∀ (es : List Int), ((List.range es.length).filter fun k => decide (es.getD k 0 ≠ 0)).map (fun k => es.getD k 0) = es.filter (· ≠ 0)
 | [] => rfl
 | e :: es => by
  have ih := l7 es
  rw [List.length_cons, List.range_succ_eq_map, List.filter_cons, List.filter_cons]
  have e1 : ((List.range es.length).map Nat.succ).filter (fun k => decide ((e :: es).getD k 0 ≠ 0)) = ((List.range es.length).filter fun k => decide (es.getD k 0 ≠ 0)).map Nat.succ := by
   rw [List.filter_map]; rfl
  rw [e1]
  have e2 : (((List.range es.length).filter fun k => decide (es.getD k 0 ≠ 0)).map Nat.succ).map (fun k => (e :: es).getD k 0) = es.filter (· ≠ 0) := by
   rw [List.map_map, <- ih]; rfl
  by_cases z : e = 0
  ·have z1 : decide ((e :: es).getD 0 0 ≠ 0) = false := by show decide (e ≠ 0) = false; simp [z]
   rw [z1, if_neg (by simp), if_neg (by simp [z])]; exact e2
  ·have z1 : decide ((e :: es).getD 0 0 ≠ 0) = true := by show decide (e ≠ 0) = true; simp [z]
   rw [z1, if_pos rfl, if_pos (by simp [z]), List.map_cons, e2]; rfl
theorem fe_le (ts as : List Int) : ∀ n, fe ts as n <= n
 | 0 => Nat.le_refl _
 | n + 1 => by
  have ih := fe_le ts as n
  by_cases c : as.getD (n + 1) 0 * ts.getD (fe ts as n) 0 < as.getD (fe ts as n) 0 * ts.getD (n + 1) 0
  ·have e : fe ts as (n + 1) = n + 1 := if_pos c
   omega
  ·have e : fe ts as (n + 1) = fe ts as n := if_neg c
   omega
def lnAt (H : Hp) (c : Addr) : Nat := match H c with
 | some (.lst xs) => xs.length
 | _ => 0
theorem lnAt_of {H : Hp} {c : Addr} {xs : List V} (h : H c = some (.lst xs)) : lnAt H c = xs.length := by unfold lnAt; rw [h]
def natV : V -> Nat
 | .int i => i.toNat
 | _ => 0
def psAt (H : Hp) (a : Addr) : List Nat := match H a with
 | some (.ins _ _ fs) => match fs.lookup ("places" : Str) with
  | some (.ref pa) => match H pa with
   | some (.lst xs) => xs.map natV
   | _ => []
  | _ => []
 | _ => []
theorem psAt_of {C : Addr} {H : Hp} {a va : Addr} {ps : List Nat} {tab : List (List Int)} {D : Int} (h : CAt C H a va ps tab D) : psAt H a = ps := by
 obtain ⟨dx, fs, pa, ia, la, e, F, h1, h2, h3⟩ := h.ex
 unfold psAt
 rw [e]
 show (match fs.lookup ("places" : Str) with
  | some (.ref pa) => match H pa with
   | some (.lst xs) => xs.map natV
   | _ => []
  | _ => []) = ps
 rw [F.places]
 show (match H pa with
   | some (.lst xs) => xs.map natV
   | _ => []) = ps
 rw [h1]
 show (numsV ps).map natV = ps
 rw [List.map_map]
 conv => rhs; rw [<- List.map_id ps]
 exact List.map_congr_left fun n _ => by show ((n : Int)).toNat = n; omega
theorem spot_bits {d : Nat} {xs : List (List Int)} {ts S : List Int} (h : Spot d xs ts S) (hl : ts.length = xs.length) (hb : B29 ts) (hx : ∀ v ∈ xs, B29 v) (hk : xs.length <= 100) : ∀ x ∈ S, Bits 9000 x := fun x hx' => by
 obtain ⟨t, ht⟩ := List.getElem?_of_mem hx'
 have htl := (List.getElem?_eq_some_iff.mp ht).1
 have htd : t < d := by have := h.1; omega
 have e := h.2 t htd
 rw [List.getD_eq_getElem?_getD, ht] at e
 have e : x = lcL d ts xs t := e
 have hs : (lcL d ts xs t).natAbs <= xs.length * (2 ^ 2900 * 2 ^ 2900) := n5 fun i hi => by
  have b1 : (ts.getD i 0).natAbs < 2 ^ 2900 := hb _ (by rw [List.getD_eq_getElem?_getD, List.getElem?_eq_getElem (show i < ts.length by omega)]; exact List.getElem_mem _)
  have b2 : (ws d xs i t).natAbs <= 2 ^ 2900 := by
   unfold ws lfv
   rw [if_neg (by omega), List.getD_eq_getElem?_getD (l := xs), List.getElem?_eq_getElem hi]
   show (xs[i].getD t 0).natAbs <= _
   rw [List.getD_eq_getElem?_getD]
   cases q : xs[i][t]? with
   | none => exact Nat.zero_le _
   | some z => exact Nat.le_of_lt (hx _ (List.getElem_mem hi) z (List.mem_of_getElem? q))
  show (ts.getD i 0 * ws d xs i t).natAbs <= _
  rw [Int.natAbs_mul]
  exact Nat.mul_le_mul (Nat.le_of_lt b1) b2
 show x.natAbs < 2 ^ 9000
 rw [e]
 have e0 : (2 : Nat) ^ 2900 * 2 ^ 2900 = 2 ^ 5800 := (Nat.pow_add 2 2900 2900).symm
 have e1 : xs.length * 2 ^ 5800 <= 2 ^ 7 * 2 ^ 5800 := Nat.mul_le_mul (by show xs.length <= 128; omega) (Nat.le_refl _)
 have e2 : (2 : Nat) ^ 7 * 2 ^ 5800 = 2 ^ 5807 := (Nat.pow_add 2 7 5800).symm
 have e3 : (2 : Nat) ^ 5807 < 2 ^ 9000 := Nat.pow_lt_pow_right (show 1 < 2 by decide) (show 5807 < 9000 by decide)
 rw [e0] at hs
 rw [e2] at e1
 exact Nat.lt_of_le_of_lt (Nat.le_trans hs e1) e3
section
variable {H H' : Hp} {ss : List Addr} {fs : List (Int × Int)}
theorem TupsAt.same (h : TupsAt H ss fs) (s : Same H H') : TupsAt H' ss fs := Paired.mapP h fun _ _ z => s _ _ z
theorem TupsAt.upd {sh : Addr} {xs : List V} {o : HO} (h : TupsAt H ss fs) (e : H sh = some (.lst xs)) : TupsAt (upd H sh o) ss fs := Paired.mapP h fun _ _ z => by rw [aQ (fun y => by rw [y, e] at z; cases z)]; exact z
theorem mZ {α β : Type} {R : α -> β -> Prop} : ∀ {as : List α} {bs : List β}, Paired R as bs -> ∀ (i : Nat) {a : α} {b : β}, R a b -> Paired R (as.set i a) (bs.set i b)
 | _, _, .nil, _, _, _, _ => .nil
 | _, _, .cons r t, 0, _, _, h => .cons h t
 | _, _, .cons r t, i + 1, _, _, h => .cons r (mZ t i h)
theorem TupsAt.set {pp : Addr} {x y : Int} (h : TupsAt H ss fs) (i : Nat) (e : H pp = some (.tup [.int x, .int y])) : TupsAt H (ss.set i pp) (fs.set i (x, y)) := mZ h i e
theorem tups_rep {p : Addr} {n : Nat} {T : Int} {qs : List (Nat × Int)} (h : H p = some (.tup [.int 0, .int 1])) : TupsAt H (List.replicate n p) (d9 n T (qs.take 0)) := by
 show Paired _ _ (List.replicate n (0, 1))
 induction n with
 | zero => exact .nil
 | succ n ih => exact .cons h ih
end
theorem shareF_len (n : Nat) (T : Int) : ∀ (qs : List (Nat × Int)), (d9 n T qs).length = n := fun qs => by
 unfold d9
 have : ∀ (qs : List (Nat × Int)) (acc : List (Int × Int)), (qs.foldl (fun acc q => acc.set q.1 (aL q.2 T, aI q.2 T)) acc).length = acc.length := fun qs => by
  induction qs with
  | nil => intro acc; rfl
  | cons q qs ih => intro acc; rw [List.foldl_cons, ih, List.length_set]
 rw [this, List.length_replicate]
theorem shareF_snoc (n : Nat) (T : Int) (qs : List (Nat × Int)) (q : Nat × Int) : d9 n T (qs ++ [q]) = (d9 n T qs).set q.1 (aL q.2 T, aI q.2 T) := by
 unfold d9
 rw [List.foldl_append]; rfl
abbrev frT (T : Int) (ws : List Int) : List (Int × Int) := ws.map fun w => (aL w T, aI w T)
structure WtOk (T : Int) (ws : List Int) : Prop where
 pos : 0 < T
 bits : Bits 2900 T
 nn : ∀ w ∈ ws, 0 <= w
 sum : ws.sum = T
 few : ws.length <= 100
theorem lE : ∀ {l : List Int}, (∀ w ∈ l, 0 <= w) -> 0 <= l.sum /\ ∀ w ∈ l, w <= l.sum
 | [], _ => ⟨Int.le_refl _, fun w hw => by simp at hw⟩
 | a :: l, h => by
  obtain ⟨h1, h2⟩ := lE (l := l) fun w hw => h w (List.mem_cons_of_mem _ hw)
  have h3 := h a (List.mem_cons_self ..)
  rw [List.sum_cons]
  refine ⟨by omega, fun w hw => ?_⟩
  rcases List.mem_cons.mp hw with z | z
  ·rw [z]; omega
  ·have := h2 w z; omega
theorem frac_bits {T P : Int} (hb : Bits 2900 T) (h0 : 0 <= P) (h1 : P <= T) : Bits 2900 (aL P T) /\ Bits 2900 (aI P T) := by
 have h2 := gJ P T
 have h3 := gK P T
 have h4 : T.natAbs < 2 ^ 2900 := hb
 refine ⟨?_, ?_⟩
 ·show (aL P T).natAbs < 2 ^ 2900; omega
 ·show (aI P T).natAbs < 2 ^ 2900; omega
theorem iY {α β : Type} {g : α -> β} {xs : List α} {i : Nat} {y : β} (h : (xs.map g)[i]? = some y) : ∃ x, xs[i]? = some x /\ y = g x := by
 rw [List.getElem?_map] at h
 cases q : xs[i]? with
 | none => rw [q] at h; cases h
 | some x => rw [q] at h; exact ⟨x, rfl, (Option.some.inj h).symm⟩
theorem fY {H : Hp} {ss : List Addr} {T : Int} {ws : List Int} {i : Nat} {A : Addr} (h : TupsAt H ss (frT T ws)) (hA : ss[i]? = some A) : ∃ w, ws[i]? = some w /\ H A = some (.tup [.int (aL w T), .int (aI w T)]) := by
 obtain ⟨f, hf, e⟩ := paired_get h hA
 obtain ⟨w, hw, rfl⟩ := iY hf
 exact ⟨w, hw, e⟩
theorem scale_spot {d : Nat} {vs : List (List Int)} {ts ts' S S' : List Int} {T L : Int} (h : Spot d vs ts S) (h' : Spot d vs ts' S') (e : ∀ i, i < vs.length -> ts.getD i 0 * T = ts'.getD i 0 * L) : ∀ t, t < d -> S.getD t 0 * T = S'.getD t 0 * L := fun t ht => by
 rw [h.2 t ht, h'.2 t ht]
 show sm vs.length (fun i => ts.getD i 0 * Mw.ws d vs i t) * T = sm vs.length (fun i => ts'.getD i 0 * Mw.ws d vs i t) * L
 rw [<- cV, <- cV]
 refine aK fun i hi => ?_
 have := e i hi
 grind
theorem tops_ok {T L : Int} {ws : List Int} (hO : WtOk T ws) (hL0 : 0 < L) (hLT : L ∣ T) (hLw : ∀ w ∈ ws, aI w T ∣ L) (hLb : Bits 2900 L) :
  (∀ i, i < ws.length -> (ws.map fun w => aL w T * (L / aI w T)).getD i 0 * T = ws.getD i 0 * L) /\ B29 (ws.map fun w => aL w T * (L / aI w T)) /\ (∀ t ∈ (ws.map fun w => aL w T * (L / aI w T)), 0 <= t) /\ (ws.map fun w => aL w T * (L / aI w T)).sum = L /\ (ws.map fun w => aL w T * (L / aI w T)).length = ws.length := by
 have hT0 := hO.pos
 have hcross : ∀ w ∈ ws, aL w T * (L / aI w T) * T = w * L := fun w hw => by
  have c := cH (t := w) (b := T)
  have m := Int.ediv_mul_cancel (hLw w hw)
  generalize L / aI w T = Y at *
  generalize aI w T = y at *
  generalize aL w T = x at *
  subst m
  grind
 have hbd : ∀ w ∈ ws, 0 <= aL w T * (L / aI w T) /\ aL w T * (L / aI w T) <= L := fun w hw => by
  have c := hcross w hw
  have w0 := hO.nn w hw
  have wT : w <= T := by rw [<- hO.sum]; exact (lE hO.nn).2 w hw
  generalize aL w T * (L / aI w T) = x at *
  have x1 : x <= L := by
   refine Int.le_of_mul_le_mul_right (a := T) ?_ hT0
   rw [c, Int.mul_comm L]
   exact Int.mul_le_mul_of_nonneg_right wT (by omega)
  have x0 : 0 <= x := by
   refine Int.not_lt.mp fun z => ?_
   have h1 := Int.mul_neg_of_neg_of_pos z hT0
   have h2 := Int.mul_nonneg w0 (Int.le_of_lt hL0)
   omega
  exact ⟨x0, x1⟩
 refine ⟨fun i hi => ?_, fun x hx => ?_, fun x hx => ?_, ?_, List.length_map _⟩
 ·rw [List.getD_eq_getElem?_getD, List.getElem?_map, List.getD_eq_getElem?_getD, List.getElem?_eq_getElem hi]
  exact hcross _ (List.getElem_mem hi)
 ·obtain ⟨w, hw, rfl⟩ := List.mem_map.mp hx
  have := hbd w hw
  have h2 : L.natAbs < 2 ^ 2900 := hLb
  show (aL w T * (L / aI w T)).natAbs < 2 ^ 2900
  omega
 ·obtain ⟨w, hw, rfl⟩ := List.mem_map.mp hx
  exact (hbd w hw).1
 ·refine Int.eq_of_mul_eq_mul_right (a := T) (by omega) ?_
  have : ∀ l : List Int, (∀ w ∈ l, w ∈ ws) -> (l.map fun w => aL w T * (L / aI w T)).sum * T = l.sum * L := by
   intro l
   induction l with
   | nil => intro _; simp
   | cons a l ih =>
    intro h
    have h1 := ih fun w hw => h w (List.mem_cons_of_mem _ hw)
    have h2 := hcross a (h a (List.mem_cons_self ..))
    rw [List.map_cons, List.sum_cons, List.sum_cons, Int.add_mul, Int.add_mul, h1, h2]
  rw [this ws (fun _ h => h), hO.sum, Int.mul_comm]
theorem lcmF_T {T : Int} (hT : 0 < T) (bs : List Int) : (∀ b ∈ bs, 0 < b /\ b ∣ T) -> 0 < cU bs /\ cU bs ∣ T := by
 refine c7 (P := fun bs => (∀ b ∈ bs, 0 < b /\ b ∣ T) -> 0 < cU bs /\ cU bs ∣ T) (fun _ => ⟨by decide, Int.one_dvd _⟩) (fun l b ih h => ?_) bs
 have h1 := ih fun x hx => h x (List.mem_append_left _ hx)
 have h2 := h b (by simp)
 have h3 := lcm_step h1.1 h2.1 h1.2 h2.2
 have e : cU (l ++ [b]) = cU l / (Int.gcd (cU l) b : Int) * b := by
  rw [qM]
  have g1 : (Int.gcd (cU l) b : Int) ∣ cU l := Int.gcd_dvd_left _ _
  have g2 : (Int.gcd (cU l) b : Int) ∣ b := Int.gcd_dvd_right _ _
  have q1 := Int.ediv_mul_cancel g1
  have q2 := Int.ediv_mul_cancel g2
  generalize (Int.gcd (cU l) b : Int) = g at *
  generalize cU l / g = X at *
  generalize b / g = Y at *
  rw [<- q1, <- q2]
  grind
 rw [e]
 exact ⟨h3.1, h3.2.2.2⟩
def spLcmT (K : PySem.W.Frag) : Sp := fun us H Q _ => ∃ (a : Addr) (bs : List Int) (T : Int), us = [.ref a] /\ SqL K H a (bs.map V.int) /\ 0 < T /\ Bits 2900 T /\ (∀ b ∈ bs, 0 < b /\ b ∣ T) /\ Q (.int (cU bs)) H
def bL (ns : List Int) : Int := ns.foldl (fun g n => (Int.gcd g n : Int)) 0
theorem gM (l : List Int) (n : Int) : bL (l ++ [n]) = (Int.gcd (bL l) n : Int) := by unfold bL; rw [List.foldl_append]; rfl
theorem gcdL_nonneg (l : List Int) : 0 <= bL l := by
 refine c7 (P := fun l => 0 <= bL l) (Int.le_refl _) (fun l n _ => ?_) l
 rw [gM]; omega
theorem jG (l : List Int) : ∀ x ∈ l, bL l ∣ x := by
 refine c7 (P := fun l => ∀ x ∈ l, bL l ∣ x) (fun x hx => by simp at hx) (fun l n ih x hx => ?_) l
 rw [gM]
 rcases List.mem_append.mp hx with z | z
 ·exact Int.dvd_trans (Int.gcd_dvd_left _ _) (ih x z)
 ·rw [List.mem_singleton.mp z]; exact Int.gcd_dvd_right _ _
theorem gcdL_mul {k : Int} (hk : 0 <= k) (l : List Int) : bL (l.map fun x => k * x) = k * bL l := by
 refine c7 (P := fun l => bL (l.map fun x => k * x) = k * bL l) ?_ (fun l n ih => ?_) l
 ·show (0 : Int) = k * 0; omega
 ·rw [List.map_append, List.map_cons, List.map_nil, gM, ih, gM, Int.gcd_mul_left, Int.natCast_mul]
  congr 1
  omega
theorem lZ {l : List Int} (h : bL l = 0) : ∀ x ∈ l, x = 0 := fun x hx => by
 have := jG l x hx
 rw [h] at this
 exact Int.zero_dvd.mp this
def c5 (S : List Int) : List Int := if bL S = 0 then S else S.map fun x => x / bL S
theorem qF (S : List Int) : (c5 S).length = S.length := by unfold c5; split; rfl; exact List.length_map _
theorem primL_get {S : List Int} {t : Nat} (h : bL S ≠ 0) : (c5 S).getD t 0 * bL S = S.getD t 0 := by
 unfold c5
 rw [if_neg h, List.getD_eq_getElem?_getD, List.getElem?_map, List.getD_eq_getElem?_getD]
 cases q : S[t]? with
 | none => exact Int.zero_mul _
 | some x => exact Int.ediv_mul_cancel (jG S x (List.mem_of_getElem? q))
theorem primL_scale {A B : List Int} {T L : Int} (hT : 0 < T) (hL : 0 < L) (h : A.map (fun x => T * x) = B.map (fun x => L * x)) : (if bL A = 0 then A else A.map fun x => x / bL A) = c5 B := by
 have hg : T * bL A = L * bL B := by rw [<- gcdL_mul (by omega), <- gcdL_mul (by omega), h]
 have hl : A.length = B.length := by have := congrArg List.length h; simpa using this
 have he : ∀ t, t < A.length -> T * A.getD t 0 = L * B.getD t 0 := fun t ht => by
  have h1 : (A.map (fun x => T * x))[t]? = (B.map (fun x => L * x))[t]? := by rw [h]
  rw [List.getElem?_map, List.getElem?_map, List.getElem?_eq_getElem ht, List.getElem?_eq_getElem (show t < B.length by omega)] at h1
  rw [List.getD_eq_getElem?_getD, List.getElem?_eq_getElem ht, List.getD_eq_getElem?_getD, List.getElem?_eq_getElem (show t < B.length by omega)]
  exact Option.some.inj h1
 unfold c5
 by_cases z : bL A = 0
 ·have zB : bL B = 0 := by
   rw [z, Int.mul_zero] at hg
   rcases Int.mul_eq_zero.mp hg.symm with y | y
   ·omega
   ·exact y
  rw [if_pos z, if_pos zB]
  refine List.ext_getElem hl fun t h1 h2 => ?_
  rw [lZ z _ (List.getElem_mem h1), lZ zB _ (List.getElem_mem h2)]
 ·have zB : bL B ≠ 0 := fun y => by
   rw [y, Int.mul_zero] at hg
   rcases Int.mul_eq_zero.mp hg with w | w
   ·omega
   ·exact z w
  rw [if_neg z, if_neg zB]
  refine List.ext_getElem (by rw [List.length_map, List.length_map, hl]) fun t h1 h2 => ?_
  have ta : t < A.length := by simpa using h1
  have tb : t < B.length := by simpa using h2
  rw [List.getElem_map, List.getElem_map]
  have d1 := Int.ediv_mul_cancel (jG A _ (List.getElem_mem ta))
  have d2 := Int.ediv_mul_cancel (jG B _ (List.getElem_mem tb))
  have e := he t ta
  rw [List.getD_eq_getElem?_getD, List.getElem?_eq_getElem ta, List.getD_eq_getElem?_getD, List.getElem?_eq_getElem tb] at e
  have e : T * A[t] = L * B[t] := e
  generalize A[t] / bL A = X at *
  generalize B[t] / bL B = Y at *
  have e2 : X * (T * bL A) = Y * (T * bL A) := by
   have : T * (X * bL A) = L * (Y * bL B) := by rw [d1, d2]; exact e
   grind
  exact Int.eq_of_mul_eq_mul_right (Int.mul_ne_zero (by omega) z) e2
def spGdv (K : PySem.W.Frag) : Sp := fun us H Q _ => ∃ (a : Addr) (ns : List Int), us = [.ref a] /\ SqL K H a (ns.map V.int) /\ Q (.int (bL ns)) H
structure FrOk (T : Int) (S : List Int) : Prop where
 pos : 0 < T
 bits : Bits 2900 T
 few : S.length <= 900
 big : ∀ x ∈ S, Bits 5900 x
def spWholeT (K : PySem.W.Frag) : Sp := fun us H Q _ => ∃ (a : Addr) (rs : List Addr) (T : Int) (S : List Int), us = [.ref a] /\ SqT K H a (rs.map V.ref) /\ TupsAt H rs (frT T S) /\ FrOk T S /\
 ∀ r H', Same H H' -> H r = none -> H' r = some (.tup ((c5 S).map V.int)) -> Q (.ref r) H'
def spMixT (K : PySem.W.Frag) : Sp := fun us H Q _ => ∃ (a b : Addr) (as ss : List Addr) (vs : List (List Int)) (ws : List Int) (T : Int) (n e : Nat), us = [.ref a, .ref b] /\ SqL K H a (as.map V.ref) /\ PtsAt K H as vs /\ vs ≠ [] /\ Dim n vs /\ H b = some (.lst (ss.map V.ref)) /\ TupsAt H ss (frT T ws) /\ WtOk T ws /\ ws.length = vs.length /\ n <= 900 /\ (∀ v ∈ vs, ∀ x ∈ v, x.natAbs <= 2 ^ e) /\ e <= 2900 /\ T.natAbs * 2 ^ e < 2 ^ 2950 /\
 ∀ r H' (rs : List Addr) S, Same H H' -> H r = none -> H' r = some (.tup (rs.map V.ref)) -> TupsAt H' rs (frT T S) -> Spot n vs ws S -> Q (.ref r) H'
def spNearM (K : PySem.W.Frag) : Sp := fun us H Q _ => ∃ (va : Addr) (as : List Addr) (vs : List (List Int)) (d e : Nat), us = [.ref va] /\ VAt K H va as vs d e /\
 ∀ r H' (rs : List Addr) ps S, Same H H' -> H r = none -> H' r = some (.tup (rs.map V.ref)) -> TupsAt H' rs (frT (cT d (aF vs ps)) S) -> Found d vs ps -> Spot d vs (wts d vs ps) S -> FrOk (cT d (aF vs ps)) S -> Q (.ref r) H'
theorem frac_same {a b c d : Int} (hb : 0 < b) (hd : 0 < d) (h : a * d = c * b) : aL a b = aL c d /\ aI a b = aI c d := by
 refine jU (bR (by omega)) (bR (by omega)) (gC (by omega)) (gC (by omega)) ?_
 have c1 := cH (t := a) (b := b)
 have c2 := cH (t := c) (b := d)
 generalize aL a b = x at *
 generalize aI a b = y at *
 generalize aL c d = u at *
 generalize aI c d = v at *
 -- x b = a y, u d = c v, a d = c b  ⊢ x v = u y
 have hbd : b * d ≠ 0 := Int.mul_ne_zero (by omega) (by omega)
 refine Int.eq_of_mul_eq_mul_right hbd ?_
 grind
theorem lB {l : List Int} : (∀ x ∈ l, x = 0) -> bL l = 0 := by
 refine c7 (P := fun l => (∀ x ∈ l, x = 0) -> bL l = 0) (fun _ => rfl) (fun l n ih h => ?_) l
 rw [gM, ih fun x hx => h x (List.mem_append_left _ hx), h n (by simp)]; rfl
theorem m8 {d B : Nat} {vs : List (List Int)} {ts S : List Int} {T : Int} (hS : Spot d vs ts S) (hl : ts.length = vs.length) (h0 : ∀ t ∈ ts, 0 <= t) (hT : ts.sum = T) (hx : ∀ v ∈ vs, ∀ x ∈ v, x.natAbs <= B) : ∀ x ∈ S, x.natAbs <= T.natAbs * B := fun x hx1 => by
 obtain ⟨t, ht, rfl⟩ := List.getElem_of_mem hx1
 have htd : t < d := by have := hS.1; omega
 have e1 := hS.2 t htd
 rw [List.getD_eq_getElem?_getD, List.getElem?_eq_getElem ht] at e1
 have e1 : S[t] = sm vs.length (fun i => ts.getD i 0 * Mw.ws d vs i t) := e1
 have hw : ∀ i, (Mw.ws d vs i t).natAbs <= B := fun i => by
  unfold Mw.ws lfv
  rw [if_neg (by omega)]
  cases q : vs[i]? with
  | none => rw [List.getD_eq_getElem?_getD (l := vs), q]; simp
  | some v =>
   rw [List.getD_eq_getElem?_getD (l := vs), q]
   show (v.getD t 0).natAbs <= B
   cases q2 : v[t]? with
   | none => rw [List.getD_eq_getElem?_getD, q2]; exact Nat.zero_le _
   | some y => rw [List.getD_eq_getElem?_getD, q2]; exact hx v (List.mem_of_getElem? q) y (List.mem_of_getElem? q2)
 have hts : ∀ i, 0 <= ts.getD i 0 := fun i => by
  cases q : ts[i]? with
  | none => rw [List.getD_eq_getElem?_getD, q]; exact Int.le_refl _
  | some y => rw [List.getD_eq_getElem?_getD, q]; exact h0 y (List.mem_of_getElem? q)
 have hsum : sm vs.length (fun i => ts.getD i 0) = T := by rw [<- hT, <- mK, hl]
 have up : sm vs.length (fun i => ts.getD i 0 * Mw.ws d vs i t) <= T * B := by
  rw [<- hsum, <- cV]
  exact sm_le fun i _ => Int.mul_le_mul_of_nonneg_left (by have := hw i; omega) (hts i)
 have lo : T * (-(B : Int)) <= sm vs.length (fun i => ts.getD i 0 * Mw.ws d vs i t) := by
  rw [<- hsum, <- cV]
  exact sm_le fun i _ => Int.mul_le_mul_of_nonneg_left (by have := hw i; omega) (hts i)
 have T0 : 0 <= T := by rw [<- hT]; exact (lE h0).1
 rw [e1]
 have e : ((T.natAbs * B : Nat) : Int) = T * B := by rw [Int.natCast_mul, Int.natAbs_of_nonneg T0]
 rw [Int.mul_neg] at lo
 generalize T.natAbs * B = N at *
 generalize T * (B : Int) = M at *
 omega
theorem line_mix {e k n : Nat} (hk : k <= n) (h : e * (n + 2) + 2 * n + 4 <= 2900) : k * (k * 2 ^ (e * k)) * 2 ^ e < 2 ^ 2950 := by
 have h1 : k <= 2 ^ k := Nat.le_of_lt (iS k)
 have h2 : k * (k * 2 ^ (e * k)) * 2 ^ e <= 2 ^ k * (2 ^ k * 2 ^ (e * k)) * 2 ^ e := Nat.mul_le_mul_right _ (Nat.mul_le_mul h1 (Nat.mul_le_mul_right _ h1))
 refine Nat.lt_of_le_of_lt h2 ?_
 rw [<- Nat.pow_add, <- Nat.pow_add, <- Nat.pow_add]
 refine Nat.pow_lt_pow_right (by decide) ?_
 have h3 : e * k <= e * n := Nat.mul_le_mul_left _ hk
 have h4 : e * (n + 2) = e * n + 2 * e := by rw [Nat.mul_add, Nat.mul_comm e 2]
 omega
theorem wts_ok {K : PySem.W.Frag} {H : Hp} {va : Addr} {as : List Addr} {vs : List (List Int)} {d e : Nat} {ps : List Nat} (hL : Last d vs ps) (hV : VAt K H va as vs d e) : WtOk (cT d (aF vs ps)) (wts d vs ps) := by
 refine ⟨hL.good.tpos, hV.tot hL.below hL.good.pos, wts_nonneg hL, wts_sum hL, by rw [iV]; exact hV.few⟩
theorem mix_line {K : PySem.W.Frag} {H : Hp} {va : Addr} {as : List Addr} {vs : List (List Int)} {d e : Nat} {ps : List Nat} (hL : Last d vs ps) (hV : VAt K H va as vs d e) : (cT d (aF vs ps)).natAbs * 2 ^ e < 2 ^ 2950 := by
 have hk := b5 hL.below hL.good.pos
 have hl : Lim e (aF vs ps) := fun v hv => by
  obtain ⟨p, hp, rfl⟩ := List.mem_map.mp hv
  have hp2 := hL.below p hp
  exact hV.lim _ (by rw [List.getD_eq_getElem?_getD, List.getElem?_eq_getElem hp2]; exact List.getElem_mem hp2)
 have h1 := cT_abs hL.good.dim hl hL.good.pos
 rw [bF] at h1
 exact Nat.lt_of_le_of_lt (Nat.mul_le_mul_right _ h1) (line_mix hk hV.line)
theorem dot_selfV : ∀ {x : List Int}, dot x x = 0 -> ∀ z ∈ x, z = 0
 | [], _, z, h => by simp at h
 | a :: x, e, z, h => by
  rw [nP] at e
  have h1 := jW x
  have h2 := gI a
  rcases List.mem_cons.mp h with q | q
  ·have : a * a = 0 := by omega
   rw [q]
   rcases Int.mul_eq_zero.mp this with y | y <;> exact y
  ·exact dot_selfV (x := x) (by omega) z q
theorem m4 : ∀ {x : List Int} (y : List Int), (∀ z ∈ x, z = 0) -> dot x y = 0
 | [], y, _ => by simp [dot]
 | a :: x, [], _ => by simp [dot]
 | a :: x, b :: y, h => by
  rw [nP, m4 y fun z hz => h z (List.mem_cons_of_mem _ hz), h a (List.mem_cons_self ..)]
  omega
theorem prim_zero {S : List Int} (h : ∀ x ∈ c5 S, x = 0) : ∀ x ∈ S, x = 0 := by
 by_cases hg : bL S = 0
 ·exact lZ hg
 ·intro x hx
  obtain ⟨t, ht, rfl⟩ := List.getElem_of_mem hx
  have e := primL_get (t := t) hg
  rw [List.getD_eq_getElem?_getD, List.getD_eq_getElem?_getD, List.getElem?_eq_getElem ht] at e
  have e : (c5 S)[t]?.getD 0 * bL S = S[t] := e
  rw [<- e]
  have ht2 : t < (c5 S).length := by rw [qF]; exact ht
  rw [List.getElem?_eq_getElem ht2]
  show (c5 S)[t] * bL S = 0
  rw [h _ (List.getElem_mem _), Int.zero_mul]
theorem prim_le {S : List Int} {N : Nat} (h : ∀ x ∈ S, Bits N x) : ∀ x ∈ c5 S, Bits N x := fun x hx => by
 unfold c5 at hx
 split at hx
 ·exact h x hx
 ·obtain ⟨y, hy, rfl⟩ := List.mem_map.mp hx
  exact (h y hy).le (Int.natAbs_ediv_le_natAbs _ _)
def InR (n : Nat) (s : Int) : Prop := 0 <= s /\ s < (n : Int)
def PrAt (H : Hp) (bs : List Addr) (ps : List (Nat × Int)) : Prop := Paired (fun b p => H b = some (.tup [.int (p.1 : Nat), .int p.2])) bs ps
def TpAt (H : Hp) (bs : List Addr) (vs : List (List Int)) : Prop := Paired (fun b v => H b = some (.tup (v.map V.int))) bs vs
theorem PrAt.same {H H' : Hp} {bs : List Addr} {ps : List (Nat × Int)} (s : Same H H') (h : PrAt H bs ps) : PrAt H' bs ps := Paired.mapP h fun _ _ z => s _ _ z
theorem PrAt.upd {H : Hp} {D : Addr} {ys : List V} {o : HO} {bs : List Addr} {ps : List (Nat × Int)} (h : PrAt H bs ps) (hD : H D = some (.lst ys)) : PrAt (upd H D o) bs ps := Paired.mapP h fun _ _ z => by rw [aQ (ne_of z hD (by simp))]; exact z
theorem Paired.app {α β : Type} {R : α -> β -> Prop} : ∀ {as as' : List α} {bs bs' : List β}, Paired R as bs -> Paired R as' bs' -> Paired R (as ++ as') (bs ++ bs')
 | _, _, _, _, .nil, h => h
 | _, _, _, _, .cons r t, h => .cons r (Paired.app t h)
structure RowsV (m : Nat) (rs : List (List Int × Int)) : Prop where
 pos : 0 < m
 few : m <= 4
 len : rs.length <= 20
 cnt : ∀ r ∈ rs, r.1.length = m
 low : ∀ r ∈ rs, ∀ x ∈ r.1, -1000 <= x /\ x <= 1000
 sid : ∀ r ∈ rs, Bits 1900 r.2
def o9 (K : PySem.W.Frag) (ns : Addr) : Sp := fun vs H Q E => ∃ (a : Addr) (as : List Addr) (rs : List (List Int × Int)) (n : Nat), vs = [.ref a, .int n] /\ SqL K H a (as.map V.ref) /\ RowsAt K H as rs /\ (∀ r ∈ rs, Bits 1900 r.2) /\
 (∀ r ∈ rs, ¬ InR n r.2 -> E (.ref ns) none H) /\ ((∀ r ∈ rs, InR n r.2) -> Q .non H)
theorem cutR_to (cs : List Addr) {k : Nat} (h : k <= cs.length) : cP (cs.map V.ref) none (some (k : Int)) = (cs.take k).map V.ref := by
 unfold cP
 rw [List.length_map, HT.sIx_nat, show HT.sIx cs.length 0 none = 0 from rfl, List.drop_zero, Nat.sub_zero, Nat.min_eq_left h, List.map_take]
theorem cutR_from (cs : List Addr) {k : Nat} (h : k <= cs.length) : cP (cs.map V.ref) (some (k : Int)) none = (cs.drop k).map V.ref := by
 unfold cP
 rw [List.length_map, HT.sIx_nat, show HT.sIx cs.length cs.length none = cs.length from rfl, Nat.min_eq_left h, List.take_of_length_le (by rw [List.length_drop, List.length_map]; exact Nat.le_refl _), List.map_drop]
theorem mV {K : PySem.W.Frag} {H : Hp} : ∀ {as : List Addr} {rs : List (List Int × Int)} (k : Nat), RowsAt K H as rs -> RowsAt K H (as.take k) (rs.take k)
 | _, _, 0, _ => .nil
 | _, _, _ + 1, .nil => .nil
 | _, _, k + 1, .cons r t => .cons r (mV k t)
theorem mW {K : PySem.W.Frag} {H : Hp} : ∀ {as : List Addr} {rs : List (List Int × Int)} (k : Nat), RowsAt K H as rs -> RowsAt K H (as.drop k) (rs.drop k)
 | _, _, 0, r => r
 | _, _, _ + 1, .nil => .nil
 | _, _, k + 1, .cons _ t => mW k t
theorem dW {x : Int} {n : Nat} (h1 : -10000000000000000 <= x) (h2 : x <= 10000000000000000) (hn : 60 <= n) : Bits n x := by
 refine Bits.mono (n := 60) ?_ hn
 show x.natAbs < 2 ^ 60
 have e : (2 : Nat) ^ 60 = 1152921504606846976 := by decide
 omega
def bV (s : Int) (rs : List (List Int × Int)) : List Nat := (List.range rs.length).filter fun k => decide ((rs.getD k ([], 0)).2 = s)
def cO (s : Int) (rs : List (List Int × Int)) : List (List Int) := (rs.filter fun r => decide (r.2 = s)).map (·.1)
def bS (rs : List (List Int × Int)) : Prop := 0 < (cO 0 rs).length /\ 0 < (cO 1 rs).length
def bP (rs : List (List Int × Int)) : List (Nat × Int) := (bV 1 rs).flatMap fun i => (bV 0 rs).map fun (j : Nat) => (i, (j : Int))
def d6 (x y : List Int) : List Int := List.zipWith (fun a b => a - b) x y
def bG (rs : List (List Int × Int)) : List (List Int) := (bP rs).map fun p => d6 (rs.getD p.1 ([], 0)).1 (rs.getD p.2.toNat ([], 0)).1
def spNums (K : PySem.W.Frag) : Sp := fun us H Q _ => ∃ (a : Addr) (as : List Addr) (rs : List (List Int × Int)) (s : Int), us = [.ref a, .int s] /\ SqL K H a (as.map V.ref) /\ RowsAt K H as rs /\ rs.length <= 20 /\
 ∀ r H', Same H H' -> H r = none -> H' r = some (.lst ((bV s rs).map fun (k : Nat) => V.int (k : Int))) -> Q (.ref r) H'
def spPts (K : PySem.W.Frag) : Sp := fun us H Q _ => ∃ (a : Addr) (as : List Addr) (rs : List (List Int × Int)) (s : Int), us = [.ref a, .int s] /\ SqL K H a (as.map V.ref) /\ RowsAt K H as rs /\ rs.length <= 20 /\
 ∀ r H' (qs : List Addr), Same H H' -> H r = none -> H' r = some (.lst (qs.map V.ref)) -> PtsAt K H' qs (cO s rs) -> Q (.ref r) H'
def jO (K : PySem.W.Frag) : Sp := fun us H Q _ => ∃ (a : Addr) (as : List Addr) (rs : List (List Int × Int)), us = [.ref a] /\ SqL K H a (as.map V.ref) /\ RowsAt K H as rs /\ rs.length <= 20 /\
 (bS rs -> ∀ H', Same H H' -> Q (.bl true) H') /\ (¬ bS rs -> ∀ H', Same H H' -> Q (.bl false) H')
def o6 (K : PySem.W.Frag) : Sp := fun us H Q _ => ∃ (a : Addr) (as : List Addr) (rs : List (List Int × Int)), us = [.ref a] /\ SqL K H a (as.map V.ref) /\ RowsAt K H as rs /\ rs.length <= 20 /\
 ∀ r H' (bs : List Addr), Same H H' -> H r = none -> H' r = some (.lst (bs.map V.ref)) -> PrAt H' bs (bP rs) -> Q (.ref r) H'
def spLess (K : PySem.W.Frag) : Sp := fun us H Q _ => ∃ (a b : Addr) (xs ys : List Int), us = [.ref a, .ref b] /\ SqT K H a (xs.map V.int) /\ SqT K H b (ys.map V.int) /\ xs.length <= 1000 /\
 ∀ r H', Same H H' -> H r = none -> H' r = some (.tup ((d6 xs ys).map V.int)) -> Q (.ref r) H'
def pB (K : PySem.W.Frag) : Sp := fun us H Q _ => ∃ (a : Addr) (as : List Addr) (rs : List (List Int × Int)) (m : Nat), us = [.ref a] /\ SqL K H a (as.map V.ref) /\ RowsAt K H as rs /\ RowsV m rs /\
 ∀ r H' (bs : List Addr), Same H H' -> H r = none -> H' r = some (.lst (bs.map V.ref)) -> TpAt H' bs (bG rs) -> Q (.ref r) H'
theorem rows_pts {K : PySem.W.Frag} {H : Hp} : ∀ {as : List Addr} {rs : List (List Int × Int)}, RowsAt K H as rs -> ∃ qs : List Addr, qs.length = rs.length /\ ∀ (i : Nat) A r, as[i]? = some A -> rs[i]? = some r -> ∃ q, qs[i]? = some q /\ SqT K H A [.ref q, .int r.2] /\ SqT K H q (r.1.map V.int)
 | [], [], _ => ⟨[], rfl, fun i A r h => by simp at h⟩
 | a :: as, r :: rs, .cons ⟨p, h1, h2⟩ t => by
  obtain ⟨qs, e, h⟩ := rows_pts t
  refine ⟨p :: qs, by rw [List.length_cons, List.length_cons, e], fun i A r' hA hr => ?_⟩
  cases i with
  | zero =>
   have e1 : a = A := by simpa using hA
   have e2 : r = r' := by simpa using hr
   rw [<- e1, <- e2]
   exact ⟨p, rfl, h1, h2⟩
  | succ i => exact h i A r' (by simpa using hA) (by simpa using hr)
theorem k6 {α : Type} {R : Addr -> List Int -> Prop} (g : Nat -> Addr) (s : Int) : ∀ (rs : List (List Int × Int)) (k : Nat), (∀ (i : Nat) r, rs[i]? = some r -> R (g (k + i)) r.1) -> Paired R (((List.range' k rs.length).filter fun i => decide ((rs.getD (i - k) ([], 0)).2 = s)).map g) (cO s rs)
 | [], k, _ => .nil
 | r :: rs, k, h => by
  have h0 := h 0 r rfl
  have ih := k6 (α := α) g s rs (k + 1) (fun i r' hr => by
   have := h (i + 1) r' (by simpa using hr)
   rw [show k + 1 + i = k + (i + 1) by omega]; exact this)
  have e : (List.range' (k + 1) rs.length).filter (fun i => decide (((r :: rs).getD (i - k) ([], 0)).2 = s)) = (List.range' (k + 1) rs.length).filter fun i => decide ((rs.getD (i - (k + 1)) ([], 0)).2 = s) := by
   refine List.filter_congr fun i hi => ?_
   have := (List.mem_range'_1.mp hi).1
   rw [show i - k = (i - (k + 1)) + 1 by omega]; rfl
  rw [List.length_cons, List.range'_succ, List.filter_cons, e]
  have e0 : ((r :: rs).getD (k - k) ([], 0)) = r := by rw [Nat.sub_self]; rfl
  rw [e0]
  unfold cO
  rw [List.filter_cons]
  by_cases c : r.2 = s
  ·rw [if_pos (by simpa using c), if_pos (by simpa using c)]
   exact .cons h0 ih
  ·rw [if_neg (by simpa using c), if_neg (by simpa using c)]
   exact ih
theorem nums_lt {s : Int} {rs : List (List Int × Int)} {k : Nat} (h : k ∈ bV s rs) : k < rs.length /\ (rs.getD k ([], 0)).2 = s := by
 unfold bV at h
 obtain ⟨h1, h2⟩ := List.mem_filter.mp h
 exact ⟨List.mem_range.mp h1, by simpa using h2⟩
theorem nums_few (s : Int) (rs : List (List Int × Int)) : (bV s rs).length <= rs.length := by
 unfold bV
 refine Nat.le_trans (List.length_filter_le _ _) ?_
 rw [List.length_range]; exact Nat.le_refl _
theorem flat_few {α β : Type} {N : Nat} {f : α -> List β} (h : ∀ a, (f a).length <= N) : ∀ {l : List α}, (l.flatMap f).length <= l.length * N
 | [] => by simp
 | a :: l => by
  have h1 := flat_few h (l := l)
  have h2 := h a
  rw [List.flatMap_cons, List.length_append, List.length_cons, Nat.succ_mul]
  omega
theorem jS {rs : List (List Int × Int)} {p : Nat × Int} (h : p ∈ bP rs) : p.1 < rs.length /\ 0 <= p.2 /\ p.2.toNat < rs.length /\ (rs.getD p.1 ([], 0)).2 = 1 /\ (rs.getD p.2.toNat ([], 0)).2 = 0 := by
 unfold bP at h
 obtain ⟨i, hi, h2⟩ := List.mem_flatMap.mp h
 obtain ⟨j, hj, rfl⟩ := List.mem_map.mp h2
 obtain ⟨a1, a2⟩ := nums_lt hi
 obtain ⟨b1, b2⟩ := nums_lt hj
 exact ⟨a1, by show 0 <= (j : Int); omega, by show (j : Int).toNat < _; rw [Int.toNat_natCast]; exact b1, a2, by show (rs.getD (j : Int).toNat ([], 0)).2 = 0; rw [Int.toNat_natCast]; exact b2⟩
theorem m3 {α : Type} {p q : α -> Bool} (h : ∀ a, p a = true -> q a = false) : ∀ l : List α, (l.filter p).length + (l.filter q).length <= l.length
 | [] => by simp
 | a :: l => by
  have ih := m3 h l
  have h1 := h a
  rw [List.filter_cons, List.filter_cons, List.length_cons]
  cases c : p a
  ·cases c2 : q a
   ·simp; omega
   ·simp; omega
  ·rw [c] at h1
   rw [h1 rfl]
   simp; omega
theorem lP {rs : List (List Int × Int)} (h : rs.length <= 20) : (bP rs).length <= 100 := by
 have e : (bP rs).length = (bV 1 rs).length * (bV 0 rs).length := by
  unfold bP
  generalize bV 1 rs = l
  induction l with
  | nil => simp
  | cons a l ih => rw [List.flatMap_cons, List.length_append, ih, List.length_map, List.length_cons, Nat.succ_mul]; omega
 have h2 : (bV 1 rs).length + (bV 0 rs).length <= 20 := by
  refine Nat.le_trans (m3 (fun a ha => ?_) (List.range rs.length)) (by rw [List.length_range]; exact h)
  have ha : (rs.getD a ([], 0)).2 = 1 := by simpa using ha
  rw [ha]; rfl
 have h3 : ∀ a, a < 21 -> a * (20 - a) <= 100 := by decide
 rw [e]
 exact Nat.le_trans (Nat.mul_le_mul_left _ (show (bV 0 rs).length <= 20 - (bV 1 rs).length by omega)) (h3 _ (by omega))
theorem lessF_len {x y : List Int} {m : Nat} (hx : x.length = m) (hy : y.length = m) : (d6 x y).length = m := by unfold d6; rw [List.length_zipWith, hx, hy]; omega
theorem qK : ∀ {x y : List Int}, (∀ z ∈ x, -1000 <= z /\ z <= 1000) -> (∀ z ∈ y, -1000 <= z /\ z <= 1000) -> ∀ z ∈ d6 x y, z.natAbs <= 2000
 | [], _, _, _, z, h => by simp [d6] at h
 | _ :: _, [], _, _, z, h => by simp [d6] at h
 | a :: x, b :: y, hx, hy, z, h => by
  have h : z ∈ (a - b) :: d6 x y := h
  rcases List.mem_cons.mp h with e | e
  ·have h1 := hx a (List.mem_cons_self ..)
   have h2 := hy b (List.mem_cons_self ..)
   omega
  ·exact qK (fun z hz => hx z (List.mem_cons_of_mem _ hz)) (fun z hz => hy z (List.mem_cons_of_mem _ hz)) z e
theorem sq_lowN {N : Nat} : ∀ {x : List Int}, (∀ z ∈ x, z.natAbs <= N) -> dot x x <= ((N * N * x.length : Nat) : Int)
 | [], _ => by simp [dot]
 | a :: x, h => by
  have h1 := sq_lowN (x := x) fun z hz => h z (List.mem_cons_of_mem _ hz)
  have h2 := h a (List.mem_cons_self ..)
  have e : a * a = ((a.natAbs * a.natAbs : Nat) : Int) := Int.natAbs_mul_self.symm
  have h3 := Nat.mul_le_mul h2 h2
  rw [nP, List.length_cons, Nat.mul_succ, e]
  generalize N * N * x.length = A at *
  generalize a.natAbs * a.natAbs = B at *
  generalize N * N = C at *
  omega
theorem diff_mem {rs : List (List Int × Int)} {v : List Int} (h : v ∈ bG rs) : ∃ r ∈ rs, ∃ r' ∈ rs, r.2 = 1 /\ r'.2 = 0 /\ v = d6 r.1 r'.1 := by
 unfold bG at h
 obtain ⟨p, hp, rfl⟩ := List.mem_map.mp h
 obtain ⟨g1, g2, g3, g4, g5⟩ := jS hp
 refine ⟨rs.getD p.1 ([], 0), ?_, rs.getD p.2.toNat ([], 0), ?_, g4, g5, rfl⟩
 ·rw [List.getD_eq_getElem?_getD, List.getElem?_eq_getElem g1]; exact List.getElem_mem g1
 ·rw [List.getD_eq_getElem?_getD, List.getElem?_eq_getElem g3]; exact List.getElem_mem g3
theorem diff_dim {m : Nat} {rs : List (List Int × Int)} (hV : RowsV m rs) : Dim m (bG rs) := fun v hv => by
 obtain ⟨r, hr, r', hr', _, _, rfl⟩ := diff_mem hv
 exact lessF_len (hV.cnt r hr) (hV.cnt r' hr')
theorem mem_diff {rs : List (List Int × Int)} {r r' : List Int × Int} (hr : r ∈ rs) (hr' : r' ∈ rs) (h1 : r.2 = 1) (h0 : r'.2 = 0) : d6 r.1 r'.1 ∈ bG rs := by
 obtain ⟨i, hi, rfl⟩ := List.getElem_of_mem hr
 obtain ⟨j, hj, rfl⟩ := List.getElem_of_mem hr'
 have ei : rs.getD i ([], 0) = rs[i] := by rw [List.getD_eq_getElem?_getD, List.getElem?_eq_getElem hi]; rfl
 have ej : rs.getD j ([], 0) = rs[j] := by rw [List.getD_eq_getElem?_getD, List.getElem?_eq_getElem hj]; rfl
 unfold bG
 refine List.mem_map.mpr ⟨(i, (j : Int)), ?_, ?_⟩
 ·unfold bP
  refine List.mem_flatMap.mpr ⟨i, ?_, List.mem_map.mpr ⟨j, ?_, rfl⟩⟩
  ·unfold bV
   exact List.mem_filter.mpr ⟨List.mem_range.mpr hi, by rw [ei]; simpa using h1⟩
  ·unfold bV
   exact List.mem_filter.mpr ⟨List.mem_range.mpr hj, by rw [ej]; simpa using h0⟩
 ·show d6 (rs.getD i ([], 0)).1 (rs.getD (j : Int).toNat ([], 0)).1 = _
  rw [Int.toNat_natCast, ei, ej]
theorem fF {s : Int} {rs : List (List Int × Int)} {x : List Int} : x ∈ cO s rs ↔ ∃ r ∈ rs, r.2 = s /\ r.1 = x := by
 unfold cO
 constructor
 ·intro h
  obtain ⟨r, hr, rfl⟩ := List.mem_map.mp h
  obtain ⟨h1, h2⟩ := List.mem_filter.mp hr
  exact ⟨r, h1, by simpa using h2, rfl⟩
 ·rintro ⟨r, h1, h2, rfl⟩
  exact List.mem_map.mpr ⟨r, List.mem_filter.mpr ⟨h1, by simpa using h2⟩, rfl⟩
theorem diff_vat {K : PySem.W.Frag} {H : Hp} {va : Addr} {bs : List Addr} {m : Nat} {rs : List (List Int × Int)} (hV : RowsV m rs) (hb : bS rs) (hL : H va = some (.lst (bs.map V.ref))) (hT : TpAt H bs (bG rs)) : VAt K H va bs (bG rs) m 24 := by
 have hfew : (bG rs).length <= 100 := by unfold bG; rw [List.length_map]; exact lP hV.len
 have hm := hV.few
 refine ⟨SqL.of hL, Paired.mapP hT fun _ _ z => SqT.of z, diff_dim hV, fun v hv => ?_, hfew, by omega, by omega, fun e => ?_⟩
 ·have hl := diff_dim hV v hv
  obtain ⟨r, hr, r', hr', _, _, rfl⟩ := diff_mem hv
  have h1 := sq_lowN (N := 2000) (qK (hV.low r hr) (hV.low r' hr'))
  rw [hl] at h1
  have e : ((2 ^ 24 : Nat) : Int) = 16777216 := by decide
  rw [e]
  omega
 ·obtain ⟨x, hx⟩ := List.exists_mem_of_length_pos hb.1
  obtain ⟨y, hy⟩ := List.exists_mem_of_length_pos hb.2
  obtain ⟨r', hr', h0, _⟩ := fF.mp hx
  obtain ⟨r, hr, h1, _⟩ := fF.mp hy
  have := mem_diff hr hr' h1 h0
  rw [e] at this; simp at this
theorem qI {K : PySem.W.Frag} {H : Hp} {va : Addr} {as : List Addr} {vs : List (List Int)} {d e : Nat} {ps : List Nat} {S : List Int} (hL : Last d vs ps) (hV : VAt K H va as vs d e) (hS : Spot d vs (wts d vs ps) S) (hd : d <= 4) (he : e <= 24) : (∀ x ∈ S, Bits 149 x) /\ Bits 125 (cT d (aF vs ps)) := by
 have hT := tot_small hL.good (gA hV.lim hL.below) hd he
 have hO := wts_ok hL hV
 refine ⟨fun x hx => ?_, hT⟩
 have h1 := m8 hS iV hO.nn hO.sum (fun v hv x hx => lM (hV.lim.sq hv) hx) x hx
 have h2 : 2 ^ e <= 2 ^ 24 := Nat.pow_le_pow_right (by decide) he
 refine Nat.lt_of_le_of_lt h1 (Nat.lt_of_le_of_lt (Nat.mul_le_mul_left _ h2) ?_)
 have h3 := Nat.mul_lt_mul_of_pos_right hT (show 0 < 2 ^ 24 by decide)
 rw [<- Nat.pow_add] at h3
 exact h3
def NearT (m : Nat) (vs : List (List Int)) (T : Int) (S : List Int) : Prop := ∃ ps, T = cT m (aF vs ps) /\ Found m vs ps /\ Spot m vs (wts m vs ps) S /\ FrOk T S /\ (∀ x ∈ S, Bits 149 x) /\ Bits 125 T
theorem NearT.one {m : Nat} {vs : List (List Int)} {T T' : Int} {S S' : List Int} (h : NearT m vs T S) (k : NearT m vs T' S') : T' = T /\ S' = S := by
 obtain ⟨ps, e1, f1, s1, _⟩ := h
 obtain ⟨ps', e2, f2, s2, _⟩ := k
 have e := f1.one f2
 subst e
 exact ⟨e2.trans e1.symm, s2.one s1⟩
def o7 (K : PySem.W.Frag) : Sp := fun us H Q _ => ∃ (a : Addr) (as : List Addr) (rs : List (List Int × Int)) (m : Nat), us = [.ref a] /\ SqL K H a (as.map V.ref) /\ RowsAt K H as rs /\ RowsV m rs /\ bS rs /\
 ∀ r H' (qs : List Addr) T S, Same H H' -> H r = none -> H' r = some (.tup (qs.map V.ref)) -> TupsAt H' qs (frT T S) -> NearT m (bG rs) T S -> Q (.ref r) H'
def spOneW (K : PySem.W.Frag) : Sp := fun us H Q _ => ∃ (a : Addr) (as : List Addr) (rs : List (List Int × Int)) (m : Nat), us = [.ref a] /\ SqL K H a (as.map V.ref) /\ RowsAt K H as rs /\ RowsV m rs /\ rs ≠ [] /\
 ∀ r H', Same H H' -> H r = none -> H' r = some (.tup ((List.replicate m 0 ++ [if 0 < (cO 1 rs).length then (1 : Int) else -1]).map V.int)) -> Q (.ref r) H'
def g9 (rs : List (List Int × Int)) (W : List Int) (lo hi : Int) : Prop := (lo ∈ (cO 1 rs).map (dot W) /\ ∀ b ∈ (cO 1 rs).map (dot W), lo <= b) /\ (hi ∈ (cO 0 rs).map (dot W) /\ ∀ b ∈ (cO 0 rs).map (dot W), b <= hi)
theorem frac_two (x : Int) : aL (2 * x) 2 = x /\ aI (2 * x) 2 = 1 := by
 refine jU (bR (by decide)) (by decide) (gC (by decide)) (by rw [Int.gcd_one_right]) ?_
 have c := cH (t := 2 * x) (b := 2)
 generalize aL (2 * x) 2 = u at *
 generalize aI (2 * x) 2 = v at *
 exact Int.eq_of_mul_eq_mul_left (show (2 : Int) ≠ 0 by decide) (by grind)
theorem mY {m : Nat} {rs : List (List Int × Int)} {W : List Int} {s t : Int} (hV : RowsV m rs) (hl : W.length = m) (hW : ∀ x ∈ W, Bits 2950 x) (h : t ∈ (cO s rs).map (dot W)) : Bits 2970 t := by
 obtain ⟨v, hv, rfl⟩ := List.mem_map.mp h
 obtain ⟨r, hr, _, rfl⟩ := fF.mp hv
 have h1 := iB (A := 2 ^ 2950) (B := 1000) (x := W) (y := r.1) (fun z hz => Nat.le_of_lt (hW z hz)) (fun z hz => by have := hV.low r hr z hz; omega)
 have hm := hV.few
 have h2 : W.length * (2 ^ 2950 * 1000) <= 4 * (2 ^ 2950 * 1000) := Nat.mul_le_mul_right _ (by omega)
 have h3 : 4 * ((2 : Nat) ^ 2950 * 1000) = 4000 * 2 ^ 2950 := by rw [Nat.mul_comm (2 ^ 2950) 1000, <- Nat.mul_assoc]
 have h4 : 4000 * (2 : Nat) ^ 2950 < 2 ^ 20 * 2 ^ 2950 := Nat.mul_lt_mul_of_pos_right (by decide) (Nat.pow_pos (by decide))
 rw [<- Nat.pow_add] at h4
 show (dot W r.1).natAbs < 2 ^ 2970
 exact Nat.lt_of_le_of_lt h1 (Nat.lt_of_le_of_lt h2 (by rw [h3]; exact h4))
def pA (K : PySem.W.Frag) (ns os : Addr) : Sp := fun us H Q E => ∃ (a : Addr) (as : List Addr) (rs : List (List Int × Int)), us = [.ref a] /\ SqL K H a (as.map V.ref) /\ RowsAt K H as rs /\ rs.length <= 20 /\ (∀ r ∈ rs, Bits 1900 r.2) /\
 (∀ r ∈ rs, ¬ InR 2 r.2 -> E (.ref ns) none H) /\ ((∀ r ∈ rs, InR 2 r.2) -> (¬ bS rs -> ∀ H', Same H H' -> E (.ref os) none H') /\ (bS rs -> ∀ H', Same H H' -> Q .non H'))
def iN (T : Int) (S : List Int) : Int := aL (dot S S) (T * T)
def fT (T : Int) (S : List Int) : Int := aI (dot S S) (T * T)
theorem frac_sq {x T : Int} (hT : 0 < T) : aL (aL x T * aL x T) (aI x T * aI x T) = aL (x * x) (T * T) /\ aI (aL x T * aL x T) (aI x T * aI x T) = aI (x * x) (T * T) := by
 have hb := bR (t := x) (b := T) (by omega)
 have c1 := cH (t := x) (b := T)
 have hTT := Int.mul_pos hT hT
 have hbb := Int.mul_pos hb hb
 refine jU (bR (by omega)) (bR (by omega)) (gC (by omega)) (gC (by omega)) ?_
 have c2 := cH (t := aL x T * aL x T) (b := aI x T * aI x T)
 have c3 := cH (t := x * x) (b := T * T)
 have n1 : aI x T * aI x T ≠ 0 := by omega
 have n2 : T * T ≠ 0 := by omega
 generalize aL (aL x T * aL x T) (aI x T * aI x T) = u at *
 generalize aI (aL x T * aL x T) (aI x T * aI x T) = v at *
 generalize aL (x * x) (T * T) = u' at *
 generalize aI (x * x) (T * T) = v' at *
 generalize aL x T = p at *
 generalize aI x T = r at *
 refine Int.eq_of_mul_eq_mul_left (Int.mul_ne_zero n1 n2) ?_
 have h1 : r * r * (T * T) * (u * v') = (u * (r * r)) * (T * T) * v' := by grind
 have h2 : r * r * (T * T) * (u' * v) = (u' * (T * T)) * (r * r) * v := by grind
 have h3 : p * p * (T * T) = x * x * (r * r) := by
  have : p * p * (T * T) = (p * T) * (p * T) := by grind
  rw [this, c1]; grind
 rw [h1, h2, c2, c3]
 have h4 : p * p * v * (T * T) * v' = p * p * (T * T) * (v * v') := by grind
 rw [h4, h3]; grind
theorem qO {P w T : Int} (hT : 0 < T) : aL (aL P T * aI w T + aL w T * aI P T) (aI P T * aI w T) = aL (P + w) T /\ aI (aL P T * aI w T + aL w T * aI P T) (aI P T * aI w T) = aI (P + w) T := by
 have hb := bR (t := P) (b := T) (by omega)
 have hy := bR (t := w) (b := T) (by omega)
 have c1 := cH (t := P) (b := T)
 have c2 := cH (t := w) (b := T)
 have hbb := Int.mul_pos hb hy
 refine jU (bR (by omega)) (bR (by omega)) (gC (by omega)) (gC (by omega)) ?_
 have c3 := cH (t := aL P T * aI w T + aL w T * aI P T) (b := aI P T * aI w T)
 have c4 := cH (t := P + w) (b := T)
 have n1 : aI P T * aI w T ≠ 0 := by omega
 have n2 : T ≠ 0 := by omega
 generalize aL (aL P T * aI w T + aL w T * aI P T) (aI P T * aI w T) = u at *
 generalize aI (aL P T * aI w T + aL w T * aI P T) (aI P T * aI w T) = v at *
 generalize aL (P + w) T = u' at *
 generalize aI (P + w) T = v' at *
 generalize aL P T = p at *
 generalize aI P T = r at *
 generalize aL w T = p' at *
 generalize aI w T = r' at *
 refine Int.eq_of_mul_eq_mul_left (Int.mul_ne_zero n1 n2) ?_
 have h1 : r * r' * T * (u * v') = (u * (r * r')) * T * v' := by grind
 have h2 : r * r' * T * (u' * v) = (u' * T) * (r * r') * v := by grind
 rw [h1, h2, c3, c4]
 have h4 : (p * r' + p' * r) * v * T * v' = ((p * T) * r' + (p' * T) * r) * (v * v') := by grind
 rw [h4, c1, c2]; grind
theorem dot_take_snoc {S : List Int} {i : Nat} {x : Int} (h : S[i]? = some x) : dot (S.take (i + 1)) (S.take (i + 1)) = dot (S.take i) (S.take i) + x * x := by
 rw [b9 h]
 unfold dot
 rw [List.zipWith_append rfl, List.sum_append]
 show _ + (x * x + 0) = _
 omega
theorem sq_step {T x : Int} {S : List Int} {i : Nat} (hT : 0 < T) (h : S[i]? = some x) : aL (iN T (S.take i) * aI (x * x) (T * T) + aL (x * x) (T * T) * fT T (S.take i)) (fT T (S.take i) * aI (x * x) (T * T)) = iN T (S.take (i + 1)) /\ aI (iN T (S.take i) * aI (x * x) (T * T) + aL (x * x) (T * T) * fT T (S.take i)) (fT T (S.take i) * aI (x * x) (T * T)) = fT T (S.take (i + 1)) := by
 unfold iN fT
 rw [dot_take_snoc h]
 exact qO (Int.mul_pos hT hT)
theorem sq_bits {T : Int} {S : List Int} {n : Nat} (h : ∀ x ∈ S, Bits 149 x) (hT : Bits 125 T) (hn : S.length <= 4) : Bits 301 (iN T (S.take n)) /\ Bits 251 (fT T (S.take n)) := by
 refine ⟨Nat.lt_of_le_of_lt (gJ _ _) ?_, Nat.lt_of_le_of_lt (gK _ _) ?_⟩
 ·have h1 := iB (A := 2 ^ 149) (B := 2 ^ 149) (x := S.take n) (y := S.take n) (fun z hz => Nat.le_of_lt (h z (List.mem_of_mem_take hz))) (fun z hz => Nat.le_of_lt (h z (List.mem_of_mem_take hz)))
  have h2 : (S.take n).length <= 3 + 1 := by rw [List.length_take]; omega
  refine Nat.lt_of_le_of_lt h1 (Nat.lt_of_le_of_lt (Nat.mul_le_mul_right _ h2) ?_)
  decide
 ·rw [Int.natAbs_mul]
  have h1 : T.natAbs < 2 ^ 125 := hT
  refine Nat.lt_of_le_of_lt (Nat.mul_le_mul (Nat.le_of_lt h1) (Nat.le_of_lt h1)) ?_
  decide
theorem one_sq_bits {T x : Int} (h : Bits 149 x) (hT : Bits 125 T) : Bits 300 (aL (x * x) (T * T)) /\ Bits 251 (aI (x * x) (T * T)) := by
 refine ⟨Nat.lt_of_le_of_lt (gJ _ _) ?_, Nat.lt_of_le_of_lt (gK _ _) ?_⟩
 ·rw [Int.natAbs_mul]
  have h1 : x.natAbs < 2 ^ 149 := h
  exact Nat.lt_of_le_of_lt (Nat.mul_le_mul (Nat.le_of_lt h1) (Nat.le_of_lt h1)) (by decide)
 ·rw [Int.natAbs_mul]
  have h1 : T.natAbs < 2 ^ 125 := hT
  exact Nat.lt_of_le_of_lt (Nat.mul_le_mul (Nat.le_of_lt h1) (Nat.le_of_lt h1)) (by decide)
theorem at_lastW {us : List Int} {c : Int} : atI ((us ++ [c]).map V.int) (-1) = some (.int c) := by
 have e : ixN ((us ++ [c]).map V.int).length (-1) = some us.length := by
  unfold ixN
  rw [if_neg (by decide), List.length_map, List.length_append, List.length_singleton, if_pos (by omega)]
  congr 1
  omega
 unfold atI
 rw [e]
 show ((us ++ [c]).map V.int)[us.length]? = _
 simp
theorem kD {P : Int -> Prop} : ∀ {ys : List V}, (∀ (j : Nat) y, ys[j]? = some y -> ∃ x, y = V.int x /\ P x) -> ∃ xs : List Int, ys = xs.map V.int /\ ∀ x ∈ xs, P x
 | [], _ => ⟨[], rfl, fun x hx => by simp at hx⟩
 | y :: ys, h => by
  obtain ⟨x, rfl, hx⟩ := h 0 y rfl
  obtain ⟨xs, rfl, hxs⟩ := kD (ys := ys) fun j y hy => h (j + 1) y (by simpa using hy)
  refine ⟨x :: xs, rfl, fun z hz => ?_⟩
  rcases List.mem_cons.mp hz with e | e
  ·rw [e]; exact hx
  ·exact hxs z e
def spPointW (K : PySem.W.Frag) : Sp := fun us H Q _ => ∃ (a : Addr) (ds : List Int) (f : Bool), us = [.ref a, .bl f] /\ SqL K H a (ds.map V.int) /\ ds.length <= 1000 /\
 ∀ r H' (xs : List Int), Same H H' -> H r = none -> H' r = some (.tup (xs.map V.int)) -> xs.length = ds.length -> (∀ x ∈ xs, -1000 <= x /\ x <= 1000) -> Q (.ref r) H'
def spSideW (K : PySem.W.Frag) : Sp := fun us H Q _ => ∃ (a b : Addr) (xs ws : List Int) (d k : Int), us = [.ref a, .ref b, .int d, .int k] /\ SqT K H a (xs.map V.int) /\ SqL K H b (ws.map V.int) /\ ws ≠ [] /\ (∀ x ∈ xs, -1000 <= x /\ x <= 1000) /\ (∀ x ∈ ws, -1000 <= x /\ x <= 1000) /\
 ∀ s H', InR 2 s -> Same H H' -> Q (.int s) H'
def spSidedW (K : PySem.W.Frag) : Sp := fun us H Q _ => ∃ (a : Addr) (ns : List Int), us = [.ref a] /\ SqL K H a (ns.map V.int) /\
 ∀ r H' (as : List Addr) (rs : List (List Int × Int)) (m : Nat), Same H H' -> H r = none -> H' r = some (.lst (as.map V.ref)) -> RowsAt K H' as rs -> RowsV m rs -> rs ≠ [] -> (∀ r ∈ rs, InR 2 r.2) -> Q (.ref r) H'
theorem gY {K : PySem.W.Frag} {H : Hp} {D a : Addr} {ys : List V} {o : HO} {xs : List V} (hD : H D = some (.lst ys)) (h : SqT K H a xs) : SqT K (upd H D o) a xs := by
 rcases h with (e | ⟨o', e⟩) | e
 ·exact .inl (.inl (by rw [aQ (fun z => by rw [z, hD] at e; cases e)]; exact e))
 ·exact .inl (.inr ⟨o', by rw [aQ (fun z => by rw [z, hD] at e; cases e)]; exact e⟩)
 ·exact .inr e
theorem qD {K : PySem.W.Frag} {H : Hp} {D : Addr} {ys : List V} {o : HO} {as : List Addr} {rs : List (List Int × Int)} (hD : H D = some (.lst ys)) (h : RowsAt K H as rs) : RowsAt K (upd H D o) as rs := Paired.mapP h fun _ _ ⟨p, h1, h2⟩ => ⟨p, gY hD h1, gY hD h2⟩
def eG (l : List Int) (k : Nat) (w : Int) : List Int := l.set k (l.getD k 0 + w)
def gV (n : Nat) (qs : List (Int × (Nat × Int))) : List Int := qs.foldl (fun acc q => eG (eG acc q.2.1 q.1) q.2.2.toNat q.1) (List.replicate n 0)
theorem mD (n : Nat) (qs : List (Int × (Nat × Int))) (q : Int × (Nat × Int)) : gV n (qs ++ [q]) = eG (eG (gV n qs) q.2.1 q.1) q.2.2.toNat q.1 := by
 unfold gV; rw [List.foldl_append]; rfl
theorem jZ (l : List Int) (k : Nat) (w : Int) : (eG l k w).length = l.length := by unfold eG; rw [List.length_set]
theorem jM (n : Nat) (qs : List (Int × (Nat × Int))) : (gV n qs).length = n := by
 refine c7 (P := fun qs => (gV n qs).length = n) ?_ (fun l q ih => ?_) qs
 ·show (List.replicate n (0 : Int)).length = n; rw [List.length_replicate]
 ·rw [mD, jZ, jZ, ih]
theorem mC {l : List Int} {k : Nat} {w : Int} (hk : k < l.length) (i : Nat) : (eG l k w).getD i 0 = l.getD i 0 + (if k = i then w else 0) := by
 unfold eG
 rw [nN hk]
 by_cases c : k = i
 ·rw [if_pos c, if_pos c, c]
 ·rw [if_neg c, if_neg c, Int.add_zero]
def accW (m : Nat) (rs : List (List Int × Int)) (ps : List Nat) : List Int := gV rs.length ((wts m (bG rs) ps).zip (bP rs))
def SideW (m : Nat) (rs : List (List Int × Int)) (T : Int) (S Ws : List Int) : Prop := ∃ ps, T = cT m (aF (bG rs) ps) /\ Found m (bG rs) ps /\ Spot m (bG rs) (wts m (bG rs) ps) S /\ FrOk T S /\ (∀ x ∈ S, Bits 149 x) /\ Bits 125 T /\ Ws = accW m rs ps
section
variable {m : Nat} {rs : List (List Int × Int)} {T : Int} {S Ws : List Int}
theorem SideW.near (h : SideW m rs T S Ws) : NearT m (bG rs) T S := by
 obtain ⟨ps, h1, h2, h3, h4, h5, h6, _⟩ := h
 exact ⟨ps, h1, h2, h3, h4, h5, h6⟩
theorem zip_ok (m : Nat) (rs : List (List Int × Int)) (ps : List Nat) {q : Int × (Nat × Int)} (h : q ∈ (wts m (bG rs) ps).zip (bP rs)) : q.1 ∈ wts m (bG rs) ps /\ q.2 ∈ bP rs := ⟨(List.of_mem_zip h).1, (List.of_mem_zip h).2⟩
theorem diff_len (rs : List (List Int × Int)) : (bG rs).length = (bP rs).length := by unfold bG; rw [List.length_map]
theorem SideW.len (h : SideW m rs T S Ws) : Ws.length = rs.length := by
 obtain ⟨ps, _, _, _, _, _, _, rfl⟩ := h
 exact jM _ _
end
theorem tups_zero {H : Hp} {p : Addr} {n : Nat} {T : Int} (hT : 0 < T) (h : H p = some (.tup [.int 0, .int 1])) : TupsAt H (List.replicate n p) (frT T (List.replicate n 0)) := by
 have e : frT T (List.replicate n 0) = List.replicate n (0, 1) := by
  unfold frT
  rw [List.map_replicate, (dJ hT).1, (dJ hT).2]
 rw [e]
 induction n with
 | zero => exact .nil
 | succ n ih =>
  rw [List.replicate_succ, List.replicate_succ]
  exact .cons h (ih (by unfold frT; rw [List.map_replicate, (dJ hT).1, (dJ hT).2]))
theorem tups_add {H : Hp} {ss : List Addr} {T w : Int} {l : List Int} {k : Nat} {pp : Addr} (h : TupsAt H ss (frT T l)) (e : H pp = some (.tup [.int (aL (l.getD k 0 + w) T), .int (aI (l.getD k 0 + w) T)])) : TupsAt H (ss.set k pp) (frT T (eG l k w)) := by
 have e1 : frT T (eG l k w) = (frT T l).set k (aL (l.getD k 0 + w) T, aI (l.getD k 0 + w) T) := by
  unfold frT eG
  rw [List.map_set]
 rw [e1]
 exact h.set k e
theorem acc_low {n : Nat} {T : Int} (qs : List (Int × (Nat × Int))) : (∀ q ∈ qs, (0 <= q.1 /\ q.1 <= T) /\ q.2.1 < n /\ q.2.2.toNat < n /\ q.2.1 ≠ q.2.2.toNat) -> ∀ i, 0 <= (gV n qs).getD i 0 /\ (gV n qs).getD i 0 <= (qs.length : Int) * T := by
 refine c7 (P := fun qs => (∀ q ∈ qs, (0 <= q.1 /\ q.1 <= T) /\ q.2.1 < n /\ q.2.2.toNat < n /\ q.2.1 ≠ q.2.2.toNat) -> ∀ i, 0 <= (gV n qs).getD i 0 /\ (gV n qs).getD i 0 <= (qs.length : Int) * T) ?_ (fun l q ih h i => ?_) qs
 ·intro _ i
  show 0 <= (List.replicate n (0 : Int)).getD i 0 /\ (List.replicate n (0 : Int)).getD i 0 <= ((0 : Nat) : Int) * T
  have e : (List.replicate n (0 : Int)).getD i 0 = 0 := by
   rw [List.getD_eq_getElem?_getD, List.getElem?_replicate]
   by_cases c : i < n
   ·rw [if_pos c]; rfl
   ·rw [if_neg c]; rfl
  rw [e]; simp
 ·have h1 := ih (fun q hq => h q (List.mem_append_left _ hq)) i
  have h2 := h q (by simp)
  rw [mD, mC (by rw [jZ, jM]; exact h2.2.2.1), mC (by rw [jM]; exact h2.2.1), List.length_append]
  have e : ((l.length + [q].length : Nat) : Int) * T = (l.length : Int) * T + T := by rw [Int.natCast_add, Int.add_mul]; show _ + 1 * T = _; omega
  rw [e]
  by_cases c1 : q.2.1 = i
  ·rw [if_pos c1, if_neg (fun c2 => h2.2.2.2 (c1.trans c2.symm))]; omega
  ·by_cases c2 : q.2.2.toNat = i
   ·rw [if_neg c1, if_pos c2]; omega
   ·rw [if_neg c1, if_neg c2]; omega
theorem op_neTI {X : Cx} {K : PySem.W.Frag} (hK : X.K = K) (hu : X.A.units + 8 < cLine) : OpR X (compareOp .NotEq) (fun x y H Q => ∃ (a b : Addr) (ns ms : List Int), x = .ref a /\ y = .ref b /\ SqT K H a (ns.map V.int) /\ SqT K H b (ms.map V.int) /\ Q (.bl (!decide (ns = ms))) H) := by
 subst hK
 intro pins s σ H x y v u Q I rx ry h
 obtain ⟨a, b, ns, ms, rfl, rfl, ha, hb, q⟩ := h
 cases rx
 cases ry
 obtain ⟨its, r1, p1, _⟩ := I.tuple ha
 obtain ⟨jts, r2, p2, _⟩ := I.tuple hb
 have l1 := r1.length
 have l2 := r2.length
 rw [List.length_map] at l1 l2
 refine SeqAt.RcNeAt.tuples (e := fun j => decide (ns[j]? = ms[j]?)) p1 p2 (by omega) (fun j h1 h2 => ?_) _ _ _ _ ?_
 ·have g1 : j < its.length := by simpa using h1
  have g2 : j < jts.length := by simpa using h2
  have n1 : j < ns.length := by omega
  have n2 : j < ms.length := by omega
  have z1 := iW r1 (by simpa using n1) g1
  have z2 := iW r2 (by simpa using n2) g2
  rw [List.getElem_map] at z1 z2
  obtain ⟨t, e1⟩ := z1
  obtain ⟨t', e2⟩ := z2
  have := SeqAt.EqAt.int_int (A := X.A.in1) (s := s) ns[j] t ms[j] t'
  have e3 : decide (ns[j]? = ms[j]?) = (ns[j] == ms[j]) := by
   rw [Bool.eq_iff_iff]; simp [n1, n2]
  simp only [List.getElem_toArray]
  rw [e1, e2, e3]
  exact this
 ·have e : ((List.range (min its.toArray.size jts.toArray.size)).all (fun j => decide (ns[j]? = ms[j]?)) && its.toArray.size == jts.toArray.size) = decide (ns = ms) := by
   rw [Bool.eq_iff_iff, Bool.and_eq_true, List.all_eq_true, decide_eq_true_iff]
   constructor
   ·rintro ⟨h1, h2⟩
    have hl : ns.length = ms.length := by simp at h2; omega
    refine List.ext_getElem? fun j => ?_
    by_cases hj : j < ns.length
    ·exact of_decide_eq_true (h1 j (List.mem_range.mpr (by simp; omega)))
    ·rw [List.getElem?_eq_none (by omega), List.getElem?_eq_none (by omega)]
   ·rintro rfl
    exact ⟨fun j _ => decide_eq_true rfl, by simp; omega⟩
  rw [e]
  exact ⟨.bl (!decide (ns = ms)), H, I, rfl, q⟩
def kJ (rs : List (List Int × Int)) (ks : List Nat) : List (List Int × Int) := ks.map fun k => rs.getD k ([], 0)
section
variable {m : Nat} {rs : List (List Int × Int)} {ks ks' : List Nat}
theorem kI (hk : ∀ k ∈ ks, k < rs.length) {r : List Int × Int} (h : r ∈ kJ rs ks) : r ∈ rs := by
 unfold kJ at h
 obtain ⟨k, hk1, rfl⟩ := List.mem_map.mp h
 have := hk k hk1
 rw [List.getD_eq_getElem?_getD, List.getElem?_eq_getElem this]; exact List.getElem_mem this
theorem subR_v (hV : RowsV m rs) (hk : ∀ k ∈ ks, k < rs.length) (hl : ks.length <= 20) : RowsV m (kJ rs ks) :=
 ⟨hV.pos, hV.few, by unfold kJ; rw [List.length_map]; exact hl, fun r hr => hV.cnt r (kI hk hr), fun r hr => hV.low r (kI hk hr), fun r hr => hV.sid r (kI hk hr)⟩
end
def i8 (n : Nat) (Ws : List Int) : List Nat := (List.range n).filter fun k => decide (Ws.getD k 0 ≠ 0)
theorem shareK_lt {n : Nat} {Ws : List Int} {k : Nat} (h : k ∈ i8 n Ws) : k < n := List.mem_range.mp (List.mem_filter.mp h).1
theorem shareK_len (n : Nat) (Ws : List Int) : (i8 n Ws).length <= n := by
 unfold i8
 refine Nat.le_trans (List.length_filter_le _ _) ?_
 rw [List.length_range]; exact Nat.le_refl _
abbrev outK (k : Nat) (ks : List Nat) : List Nat := ks.filter fun o => decide (o ≠ k)
theorem picked_filter {α : Type} (z : α) (f : α -> V) (p : α -> Bool) (l : List α) : cK (fun j => p (l.getD j z)) (fun j => f (l.getD j z)) l.length = (l.filter p).map f := by
 refine c7 (P := fun l => cK (fun j => p (l.getD j z)) (fun j => f (l.getD j z)) l.length = (l.filter p).map f) rfl (fun l a ih => ?_) l
 rw [List.length_append]
 show cK _ _ (l.length + 1) = _
 have e0 : ∀ j, j < l.length -> (l ++ [a]).getD j z = l.getD j z := fun j hj => by
  rw [List.getD_eq_getElem?_getD, List.getElem?_append_left hj, <- List.getD_eq_getElem?_getD]
 have e1 : (l ++ [a]).getD l.length z = a := by rw [List.getD_eq_getElem?_getD, List.getElem?_append_right (Nat.le_refl _)]; simp
 have e2 : cK (fun j => p ((l ++ [a]).getD j z)) (fun j => f ((l ++ [a]).getD j z)) l.length = cK (fun j => p (l.getD j z)) (fun j => f (l.getD j z)) l.length := by
  unfold cK
  rw [List.filter_congr (q := fun j => p (l.getD j z)) fun j hj => by rw [e0 j (List.mem_range.mp hj)]]
  exact List.map_congr_left fun j hj => by rw [e0 j (List.mem_range.mp (List.mem_filter.mp hj).1)]
 rw [eP, e2, ih, e1, List.filter_append, List.map_append, List.filter_cons]
 by_cases c : p a = true
 ·rw [if_pos c, if_pos c]; rfl
 ·rw [if_neg c, if_neg c]; exact (List.append_nil _).symm
theorem share_no {T w : Int} (hT : 0 < T) : [aL w T, aI w T] = [0, 1] ↔ w = 0 := by
 constructor
 ·intro h
  have c := cH (t := w) (b := T)
  have h1 : aL w T = 0 := by injection h
  have hb := bR (t := w) (b := T) (by omega)
  rw [h1, Int.zero_mul] at c
  rcases Int.mul_eq_zero.mp c.symm with q | q
  ·exact q
  ·omega
 ·rintro rfl
  rw [(dJ hT).1, (dJ hT).2]
def kK (K : PySem.W.Frag) (ns os : Addr) : Sp := fun us H Q E => ∃ (a : Addr) (as : List Addr) (rs : List (List Int × Int)) (m : Nat), us = [.ref a] /\ SqL K H a (as.map V.ref) /\ RowsAt K H as rs /\ RowsV m rs /\ (∀ r ∈ rs, ¬ InR 2 r.2 -> E (.ref ns) none H) /\
 ((∀ r ∈ rs, InR 2 r.2) -> (¬ bS rs -> ∀ H', Same H H' -> E (.ref os) none H') /\ (bS rs -> ∀ T S, NearT m (bG rs) T S -> ∀ r H', Same H H' -> H r = none -> H' r = some (.tup [.int (iN T S), .int (fT T S)]) -> Q (.ref r) H'))
def m9 (K : PySem.W.Frag) (ns os : Addr) : Sp := fun us H Q E => ∃ (a : Addr) (as : List Addr) (rs : List (List Int × Int)) (m : Nat), us = [.ref a] /\ SqL K H a (as.map V.ref) /\ RowsAt K H as rs /\ RowsV m rs /\ (∀ r ∈ rs, ¬ InR 2 r.2 -> E (.ref ns) none H) /\
 ((∀ r ∈ rs, InR 2 r.2) -> (¬ bS rs -> ∀ H', Same H H' -> E (.ref os) none H') /\ (bS rs -> ∀ T S Ws, SideW m rs T S Ws -> ∀ r H' (ss : List Addr), Same H H' -> H r = none -> H' r = some (.lst (ss.map V.ref)) -> TupsAt H' ss (frT T Ws) -> Q (.ref r) H'))
def nY (K : PySem.W.Frag) (ns os : Addr) : Sp := fun us H Q E => ∃ (a : Addr) (as : List Addr) (rs : List (List Int × Int)) (m : Nat), us = [.ref a] /\ SqL K H a (as.map V.ref) /\ RowsAt K H as rs /\ RowsV m rs /\ (∀ r ∈ rs, ¬ InR 2 r.2 -> E (.ref ns) none H) /\
 ((∀ r ∈ rs, InR 2 r.2) -> (¬ bS rs -> ∀ H', Same H H' -> E (.ref os) none H') /\ (bS rs -> ∀ r H', Same H H' -> Q (.ref r) H'))
def spHoldX (K : PySem.W.Frag) : Sp := fun us H Q _ => ∃ (a nl w : Addr) (as : List Addr) (rs : List (List Int × Int)) (m : Nat) (ks : List Nat) (p b : Int), us = [.ref a, .ref nl, .ref w] /\ SqL K H a (as.map V.ref) /\ RowsAt K H as rs /\ RowsV m rs /\ (∀ r ∈ rs, InR 2 r.2) /\ H nl = some (.lst (ks.map fun (k : Nat) => V.int (k : Int))) /\ (∀ k ∈ ks, k < rs.length) /\ ks.length <= 20 /\ H w = some (.tup [.int p, .int b]) /\ ∀ H' (r : Bool), Same H H' -> Q (.bl r) H'
def spPartX (K : PySem.W.Frag) (ns : Addr) : Sp := fun us H Q E => ∃ (a : Addr) (as : List Addr) (rs : List (List Int × Int)) (m : Nat), us = [.ref a] /\ SqL K H a (as.map V.ref) /\ RowsAt K H as rs /\ RowsV m rs /\ rs ≠ [] /\ (∀ r ∈ rs, ¬ InR 2 r.2 -> E (.ref ns) none H) /\
 ((∀ r ∈ rs, InR 2 r.2) -> ∀ v H', Same H H' -> Q v H')
def spAskedX (K : PySem.W.Frag) (ns os : Addr) : Sp := fun us H Q E => ∃ (a : Addr) (as : List Addr) (rs : List (List Int × Int)) (m : Nat) (w : Int), us = [.ref a, .int w] /\ SqL K H a (as.map V.ref) /\ RowsAt K H as rs /\ RowsV m rs /\ rs ≠ [] /\ 0 <= w /\ w < 4 /\ (∀ r ∈ rs, ¬ InR 2 r.2 -> E (.ref ns) none H) /\
 ((∀ r ∈ rs, InR 2 r.2) -> (¬ bS rs -> w ≠ 3 -> ∀ H', Same H H' -> E (.ref os) none H') /\ (bS rs \/ w = 3 -> ∀ v H', Same H H' -> Q v H'))
def DueR (rs : List (List Int × Int)) (w : Int) (L : List Str) : Prop := ((∃ r ∈ rs, ¬ InR 2 r.2) /\ L = [("NoSide" : Str)]) \/ ((∀ r ∈ rs, InR 2 r.2) /\ ¬ bS rs /\ w ≠ 3 /\ L = [("OneSide" : Str)]) \/ ((∀ r ∈ rs, InR 2 r.2) /\ (bS rs \/ w = 3) /\ L = [])
def spKindsW (ns os : Addr) : Sp := fun us H Q _ => ∃ (e : Addr) (b : Bool), us = [.ref e] /\ H e = some (fC (if b then ns else os) e) /\ ∀ r H', Same H H' -> H' r = some (.lst [V.str (if b then "NoSide" else "OneSide")]) -> Q (.ref r) H'
def spRefdW (K : PySem.W.Frag) : Sp := fun us H Q _ => ∃ (a : Addr) (as : List Addr) (rs : List (List Int × Int)) (m : Nat) (w : Int), us = [.ref a, .int w] /\ SqL K H a (as.map V.ref) /\ RowsAt K H as rs /\ RowsV m rs /\ rs ≠ [] /\ 0 <= w /\ w < 4 /\
 ∀ r H' L, DueR rs w L -> Same H H' -> H' r = some (.lst (L.map V.str)) -> Q (.ref r) H'
theorem RowsV.sub {m : Nat} {rs rs' : List (List Int × Int)} (h : RowsV m rs) (hs : ∀ r ∈ rs', r ∈ rs) (hl : rs'.length <= rs.length) : RowsV m rs' := ⟨h.pos, h.few, Nat.le_trans hl h.len, fun r hr => h.cnt r (hs r hr), fun r hr => h.low r (hs r hr), fun r hr => h.sid r (hs r hr)⟩
theorem qE {K : PySem.W.Frag} {H : Hp} {as : List Addr} {rs : List (List Int × Int)} (q : List Int × Int -> Bool) (h : RowsAt K H as rs) : ∀ i, i <= as.length -> ∃ cs : List Addr, cK (fun j => q (rs.getD j ([], 0))) (fun j => .ref (as.getD j 0)) i = cs.map V.ref /\ RowsAt K H cs ((rs.take i).filter q)
 | 0, _ => ⟨[], rfl, by rw [List.take_zero]; exact .nil⟩
 | i + 1, hi => by
  obtain ⟨cs, e, hR⟩ := qE q h i (by omega)
  obtain ⟨A, hA⟩ : ∃ A, as[i]? = some A := ⟨_, List.getElem?_eq_getElem (by omega)⟩
  obtain ⟨r, hr, hrr⟩ := paired_get h hA
  have e1 : rs.getD i ([], 0) = r := by rw [List.getD_eq_getElem?_getD, hr]; rfl
  have e2 : as.getD i 0 = A := by rw [List.getD_eq_getElem?_getD, hA]; rfl
  rw [eP, b9 hr, List.filter_append, e1, e2, e]
  cases hq : q r with
  | true =>
   refine ⟨cs ++ [A], by rw [if_pos rfl, List.map_append]; rfl, ?_⟩
   have : [r].filter q = [r] := by simp [hq]
   rw [this]
   exact Paired.app hR (.cons hrr .nil)
  | false =>
   refine ⟨cs, by rw [if_neg (by decide)], ?_⟩
   have : [r].filter q = [] := by simp [hq]
   rw [this, List.append_nil]
   exact hR
theorem kZ {K : PySem.W.Frag} {H : Hp} {as : List Addr} {rs : List (List Int × Int)} (q : List Int × Int -> Bool) (h : RowsAt K H as rs) : ∃ cs : List Addr, cK (fun j => q (rs.getD j ([], 0))) (fun j => .ref (as.getD j 0)) as.length = cs.map V.ref /\ RowsAt K H cs (rs.filter q) := by
 obtain ⟨cs, e, hR⟩ := qE q h as.length (Nat.le_refl _)
 refine ⟨cs, e, ?_⟩
 rw [Paired.length h, List.take_length] at hR
 exact hR
theorem DueR.bad {rs : List (List Int × Int)} {w : Int} {L : List Str} (h : DueR rs w L) {r : List Int × Int} (hr : r ∈ rs) (hb : ¬ InR 2 r.2) : L = [("NoSide" : Str)] := by
 rcases h with ⟨_, e⟩ | ⟨z, _⟩ | ⟨z, _⟩
 ·exact e
 ·exact absurd (z r hr) hb
 ·exact absurd (z r hr) hb
theorem DueR.one {rs : List (List Int × Int)} {w : Int} {L : List Str} (h : DueR rs w L) (hin : ∀ r ∈ rs, InR 2 r.2) (hb : ¬ bS rs) : (w = 3 -> L = []) /\ (w ≠ 3 -> L = [("OneSide" : Str)]) := by
 rcases h with ⟨⟨r, hr, z⟩, _⟩ | ⟨_, _, z, e⟩ | ⟨_, z, e⟩
 ·exact absurd (hin r hr) z
 ·exact ⟨fun y => absurd y z, fun _ => e⟩
 ·rcases z with z | z
  ·exact absurd z hb
  ·exact ⟨fun _ => e, fun y => absurd z y⟩
theorem DueR.good {rs : List (List Int × Int)} {w : Int} {L : List Str} (h : DueR rs w L) (hin : ∀ r ∈ rs, InR 2 r.2) (hb : bS rs) : L = [] := by
 rcases h with ⟨⟨r, hr, z⟩, _⟩ | ⟨_, z, _⟩ | ⟨_, _, e⟩
 ·exact absurd (hin r hr) z
 ·exact absurd hb z
 ·exact e
theorem not_both {rs : List (List Int × Int)} {c : Int} (h : ∀ r ∈ rs, r.2 = c) : ¬ bS rs := fun ⟨h0, h1⟩ => by
 obtain ⟨x, hx⟩ := List.exists_mem_of_length_pos h0
 obtain ⟨y, hy⟩ := List.exists_mem_of_length_pos h1
 obtain ⟨r, hr, e, _⟩ := fF.mp hx
 obtain ⟨r', hr', e', _⟩ := fF.mp hy
 rw [h r hr] at e
 rw [h r' hr'] at e'
 omega
theorem one_side_of {rs : List (List Int × Int)} (hin : ∀ r ∈ rs, InR 2 r.2) (h : ¬ bS rs) : ∃ c, ∀ r ∈ rs, r.2 = c := by
 by_cases h1 : 0 < (cO 1 rs).length
 ·refine ⟨1, fun r hr => ?_⟩
  obtain ⟨a, b⟩ := hin r hr
  by_cases c : r.2 = 0
  ·exact absurd ⟨List.length_pos_of_mem (fF.mpr ⟨r, hr, c, rfl⟩), h1⟩ h
  ·omega
 ·refine ⟨0, fun r hr => ?_⟩
  obtain ⟨a, b⟩ := hin r hr
  by_cases c : r.2 = 1
  ·exact absurd (List.length_pos_of_mem (fF.mpr ⟨r, hr, c, rfl⟩)) h1
  ·omega
theorem strs_plain (L : List Str) : ((L.map V.str).all jA) = true := by rw [List.all_eq_true]; intro x hx; obtain ⟨y, _, rfl⟩ := List.mem_map.mp hx; rfl
theorem refs_plain (L : List Addr) : ((L.map V.ref).all jA) = true := by rw [List.all_eq_true]; intro x hx; obtain ⟨y, _, rfl⟩ := List.mem_map.mp hx; rfl
end Mw
namespace Mw
open PySem L2
section
variable {P : Program} {w : World} {K : PySem.W.Frag} {mg : Str -> Option Value} {base : Heap} {f : Addr} {fd : FuncData} {nf C ns : Addr} {C_Corral X_NoFraction X_NoSide X_MendError X_OneSide X_NoPoint X_NoRow X_NotParted X_NoTable X_NoText X_TooMany X_WrongBook : Addr}
theorem c8 : FnScope ["one", "other", "larger", "smaller", "rest"] ["one", "other"] (aG (top 13)) := ⟨rfl, rfl, rfl, by decide +kernel, rfl, by decide +kernel, by decide +kernel⟩
theorem ok_shared_factor (F : Fun K "shared_factor" "shared_factor" (top 13) f fd) (T : Txt BN mg) : FnOk P w K mg base CX0 1 f fd ["one", "other"] spGcd := by
 refine F.ok c8 (fun vs H Q E h => ?_) (fun cdv A outer s H vs Q E hr h => ?_)
 ·obtain ⟨a, b, rfl, _⟩ := h
  rfl
 obtain ⟨a, b, rfl, q⟩ := h
 refine ⟨_, (aD (aP (i := 2) c8.nd rfl (Or.inl rfl) (aY nU rfl (T.nb "abs" (by decide)) (by decide +kernel) (aA (pv 0) aB)))
   (aD (aP (i := 3) c8.nd rfl (Or.inl rfl) (aY nU rfl (T.nb "abs" (by decide)) (by decide +kernel) (aA (pv 1) aB)))
   (aD (nE PassesOwn.never (bB oM (pv 3) aE (bA _)) (aD (aP (i := 4) c8.nd rfl (Or.inl rfl) (aJ cL (pv 2) (pv 3)))
   (aD (aP (i := 2) c8.nd rfl (Or.inl rfl) (pv 3))
   (aH (aP (i := 3) c8.nd rfl (Or.inl rfl) (pv 4))))))
   (aH (aU (pv 2)))))), ?_⟩
 refine ⟨_, rfl, a, rfl, _, rfl, b, rfl, ?_⟩
 rw [iabs, iabs]
 refine m5 (fun σ H' => ∃ (x y : Int) (r : Option V), σ = [some (.int a), some (.int b), some (.int x), some (.int y), r] /\ H' = H /\ 0 <= x /\ 0 <= y /\ Int.gcd x y = Int.gcd a b)
  (fun σ _ => match σ with | [_, _, _, some (.int y), _] => y.natAbs | _ => 0) ⟨_, _, none, rfl, rfl, Int.natCast_nonneg _, Int.natCast_nonneg _, gcd_abs a b⟩ ?_ (fun σ H Q Q' m ⟨v, e, h1, k, ek, q⟩ => ⟨v, e, h1, k, ek, m _ _ q⟩)
 rintro σ H2 ⟨x, y, r, rfl, rfl, hx, hy, hg⟩
 refine ⟨_, rfl, rfl, _, rfl, ?_⟩
 by_cases hy0 : y = 0
 ·refine iteNS (by rw [hy0]) ?_
  refine ⟨_, rfl, ?_⟩
  have e : x = (Int.gcd a b : Int) := by rw [<- hg, hy0]; exact (gcd_end hx).symm
  show Q (.int x) H2
  rw [e]
  exact q
 ·refine iteN (fun z => hy0 (by injection z)) ?_
  have hyp : 0 < y := by omega
  have hlt : x % y < y := Int.emod_lt_of_pos x hyp
  have hge : 0 <= x % y := Int.emod_nonneg x hy0
  refine ⟨_, rfl, _, rfl, x, y, rfl, rfl, hyp, _, rfl, _, rfl, ⟨y, x % y, _, rfl, rfl, hy, hge, ?_⟩, ?_⟩
  ·rw [<- hg]; exact gcd_turn hx hy
  ·show (x % y).natAbs < y.natAbs
   omega
end
end Mw
namespace Mw
open PySem L2
section
variable {P : Program} {w : World} {K : PySem.W.Frag} {mg : Str -> Option Value} {base : Heap} {f : Addr} {fd : FuncData} {nf C ns : Addr} {C_Corral X_NoFraction X_NoSide X_MendError X_OneSide X_NoPoint X_NoRow X_NotParted X_NoTable X_NoText X_TooMany X_WrongBook : Addr}
theorem pD : FnScope ["top", "bottom", "factor"] ["top", "bottom"] (aG (top 14)) := ⟨rfl, rfl, rfl, by decide +kernel, rfl, by decide +kernel, by decide +kernel⟩
theorem ok_part {nf : Addr} (F : Fun K "part" "part" (top 14) f fd) (T : Txt BN mg) (X_NoFraction : ExR K mg "NoFraction" nf) (c_shared_factor : Cal P w K mg base 1 "shared_factor" ["one", "other"] spGcd) : FnOk P w K mg base (CXE P w) 2 f fd ["top", "bottom"] (j9 nf) := by
 refine F.okX pD (fun vs H Q E h => ?_) (fun cdv A outer s H vs Q E hr h => ?_)
 ·obtain ⟨t, b, rfl, _⟩ := h
  rfl
 obtain ⟨t, b, rfl, ht, hb, h0, h1⟩ := h
 refine ⟨_, (aD (b8 (bB dH (pv 1) aE (bA _)) (aH (nF rfl X_NoFraction.c rfl X_NoFraction.g kN (aA fO aB))) bJ)
   (aD (aP (i := 2) pD.nd rfl (Or.inl rfl) (aR c_shared_factor (hr.mono (by decide)) rfl (aA (pv 0) (aA (pv 1) aB))))
   (aD (cW (b8 (bB oN (pv 1) aE (bA _)) (aH (aP (i := 2) pD.nd rfl (Or.inl rfl) (gT eZ (pv 2)))) bJ))
   (aH (aU (eC (aA (aJ op_fdivB (pv 0) (pv 2)) (aA (aJ op_fdivB (pv 1) (pv 2)) aB)))))))), ?_⟩
 refine ⟨_, rfl, rfl, _, rfl, ?_⟩
 refine c9 (fun z => ?_) (fun z => ?_)
 ·have e : b = 0 := by injection z
  exact ⟨(by show 1 <= sizeLine; decide), h0 e⟩
 ·have e : b ≠ 0 := fun y => z (by rw [y])
  refine ⟨_, rfl, _, rfl, t, b, rfl, ?_⟩
  refine ⟨fun σ H' => σ = [some (.int t), some (.int b), some (.int (fac t b))] /\ H' = H, ?_, ?_⟩
  ·refine ⟨_, rfl, _, _, rfl, rfl, _, rfl, ?_⟩
   unfold fac
   refine c9 (fun hlt => ?_) (fun hge => ?_)
   ·refine ⟨_, rfl, _, rfl, ?_, rfl⟩
    rw [if_pos hlt]; rfl
   ·refine ⟨?_, rfl⟩
    rw [if_neg hge]; rfl
  ·rintro σ H' ⟨rfl, rfl⟩
   have hfb : Bits 9000 (fac t b) := by
    refine Bits.mono (n := 3000) ?_ (by decide)
    show (fac t b).natAbs < 2 ^ 3000
    rw [fac_abs]
    exact Nat.lt_of_le_of_lt (lY e) hb
   refine ⟨_, rfl, _, rfl, _, _, rfl, rfl, ⟨fac_ne e, hfb⟩, _, rfl, _, rfl, _, _, rfl, rfl, ⟨fac_ne e, hfb⟩, (by show 2 <= sizeLine; decide), fun p hp => ?_⟩
   show Q (.ref p) (upd H' p (.tup [.int (t.fdiv (fac t b)), .int (b.fdiv (fac t b))]))
   rw [ptop_fdiv, pbot_fdiv]
   exact h1 e p hp
end
end Mw
namespace Mw
open PySem L2
section
variable {P : Program} {w : World} {K : PySem.W.Frag} {mg : Str -> Option Value} {base : Heap} {f : Addr} {fd : FuncData} {nf C ns : Addr} {C_Corral X_NoFraction X_NoSide X_MendError X_OneSide X_NoPoint X_NoRow X_NotParted X_NoTable X_NoText X_TooMany X_WrongBook : Addr}
theorem sc_both : FnScope ["one", "other"] ["one", "other"] (aG (top 15)) := ⟨rfl, rfl, rfl, by decide +kernel, rfl, by decide +kernel, by decide +kernel⟩
theorem ok_both {nf : Addr} (F : Fun K "both" "both" (top 15) f fd) (T : Txt BN mg) (c_part : CalX P w K mg base 2 "part" ["top", "bottom"] (j9 nf)) : FnOk P w K mg base (CXE P w) 3 f fd ["one", "other"] (lG K nf j8 fR) := by
 refine F.okX sc_both (fun vs H Q E h => ?_) (fun cdv A outer s H vs Q E hr h => ?_)
 ·obtain ⟨a, c, t1, b1, t2, b2, rfl, _⟩ := h
  rfl
 obtain ⟨a, c, t1, b1, t2, b2, rfl, hA, hC, h1, h2, h3, h4, h5, h6⟩ := h
 refine ⟨_, (aH (aU (b6 c_part (hr.mono (by decide)) rfl bZ (aA (aJ cB (aJ bK (bC (b7 (K := K) rfl) (pv 0) aE (fun _ _ => rfl)) (bC (b7 (K := K) rfl) (pv 1) aE (fun _ _ => rfl))) (aJ bK (bC (b7 (K := K) rfl) (pv 1) aE (fun _ _ => rfl)) (bC (b7 (K := K) rfl) (pv 0) aE (fun _ _ => rfl)))) (aA (aJ bK (bC (b7 (K := K) rfl) (pv 0) aE (fun _ _ => rfl)) (bC (b7 (K := K) rfl) (pv 1) aE (fun _ _ => rfl))) aB))))), ?_⟩
 refine ⟨_, rfl, a, _, _, _, rfl, rfl, hA, at0 _ _, _, rfl, c, _, _, _, rfl, rfl, hC, at1 _ _, _, _, rfl, rfl, ⟨1000, by decide, h1, h4⟩, _, rfl, c, _, _, _, rfl, rfl, hC, at0 _ _, _, rfl, a, _, _, _, rfl, rfl, hA, at1 _ _, _, _, rfl, rfl, ⟨1000, by decide, h3, h2⟩, _, _, rfl, rfl, _, rfl, a, _, _, _, rfl, rfl, hA, at1 _ _, _, rfl, c, _, _, _, rfl, rfl, hC, at1 _ _, _, _, rfl, rfl, ⟨1000, by decide, h2, h4⟩, j8 t1 b1 t2 b2, fR t1 b1 t2 b2, rfl, ((h1.mul h4).add (h3.mul h2)).mono (by decide), (h2.mul h4).mono (by decide), h5, h6⟩
end
end Mw
namespace Mw
open PySem L2
section
variable {P : Program} {w : World} {K : PySem.W.Frag} {mg : Str -> Option Value} {base : Heap} {f : Addr} {fd : FuncData} {nf C ns : Addr} {C_Corral X_NoFraction X_NoSide X_MendError X_OneSide X_NoPoint X_NoRow X_NotParted X_NoTable X_NoText X_TooMany X_WrongBook : Addr}
theorem sc_by : FnScope ["one", "other"] ["one", "other"] (aG (top 16)) := ⟨rfl, rfl, rfl, by decide +kernel, rfl, by decide +kernel, by decide +kernel⟩
theorem ok_by {nf : Addr} (F : Fun K "by" "by" (top 16) f fd) (T : Txt BN mg) (c_part : CalX P w K mg base 2 "part" ["top", "bottom"] (j9 nf)) : FnOk P w K mg base (CXE P w) 3 f fd ["one", "other"] (lG K nf nX fR) := by
 refine F.okX sc_by (fun vs H Q E h => ?_) (fun cdv A outer s H vs Q E hr h => ?_)
 ·obtain ⟨a, c, t1, b1, t2, b2, rfl, _⟩ := h
  rfl
 obtain ⟨a, c, t1, b1, t2, b2, rfl, hA, hC, h1, h2, h3, h4, h5, h6⟩ := h
 refine ⟨_, (aH (aU (b6 c_part (hr.mono (by decide)) rfl bZ (aA (aJ bK (bC (b7 (K := K) rfl) (pv 0) aE (fun _ _ => rfl)) (bC (b7 (K := K) rfl) (pv 1) aE (fun _ _ => rfl))) (aA (aJ bK (bC (b7 (K := K) rfl) (pv 0) aE (fun _ _ => rfl)) (bC (b7 (K := K) rfl) (pv 1) aE (fun _ _ => rfl))) aB))))), ?_⟩
 refine ⟨_, rfl, a, _, _, _, rfl, rfl, hA, at0 _ _, _, rfl, c, _, _, _, rfl, rfl, hC, at0 _ _, _, _, rfl, rfl, ⟨1000, by decide, h1, h3⟩, _, rfl, a, _, _, _, rfl, rfl, hA, at1 _ _, _, rfl, c, _, _, _, rfl, rfl, hC, at1 _ _, _, _, rfl, rfl, ⟨1000, by decide, h2, h4⟩, nX t1 b1 t2 b2, fR t1 b1 t2 b2, rfl, (h1.mul h3).mono (by decide), (h2.mul h4).mono (by decide), h5, h6⟩
end
end Mw
namespace Mw
open PySem L2
section
variable {P : Program} {w : World} {K : PySem.W.Frag} {mg : Str -> Option Value} {base : Heap} {f : Addr} {fd : FuncData} {nf C ns : Addr} {C_Corral X_NoFraction X_NoSide X_MendError X_OneSide X_NoPoint X_NoRow X_NotParted X_NoTable X_NoText X_TooMany X_WrongBook : Addr}
theorem sc_product : FnScope ["one", "other"] ["one", "other"] (aG (top 18)) := ⟨rfl, rfl, rfl, by decide +kernel, rfl, by decide +kernel, by decide +kernel⟩
theorem ok_product (F : Fun K "product" "product" (top 18) f fd) (T : Txt BN mg) : FnOk P w K mg base CX0 1 f fd ["one", "other"] (iX K) := by
 refine F.ok sc_product (fun vs H Q E h => ?_) (fun cdv A outer s H vs Q E hr h => ?_)
 ·obtain ⟨a, b, b1, b2, xs, ys, rfl, _⟩ := h
  rfl
 obtain ⟨a, b, b1, b2, xs, ys, rfl, hA, hB, hl, hx, hy, q⟩ := h
 refine ⟨_, (aH (aU (aY (mB rfl) rfl (T.nb "sum" (by decide)) (by decide +kernel) (aA (bQ (sc := aG (top 18)) (N := ["one", "other"]) (NB := ["first", "second"]) (fr := [none, none]) rfl (by decide +kernel) (fN rfl (T.nb "zip" (by decide)) (aA (pv 0) (aA (pv 1) aB))) (fun _ _ _ _ => (cG (K := K) (n := 2) rfl rfl (aW (aM (i := 0) (show (["first", "second"] : List Str).Nodup by decide +kernel) rfl (Or.inl rfl)) (aW (aM (i := 1) (show (["first", "second"] : List Str).Nodup by decide +kernel) rfl (Or.inl rfl)) cF)))) (fun _ _ _ _ => .nil) (fun _ _ _ _ => (aJ bK (pv 0) (pv 1)))) aB)))), ?_⟩
 refine ⟨_, rfl, _, rfl, b1, b2, a, b, rfl, ⟨_, hA⟩, ⟨_, hB⟩, fun D hD => ?_⟩
 refine nR (us := xs.map V.int) (vs := ys.map V.int) (fun i zs H' => zs = (((List.zipWith (· * ·) xs ys).take i).map V.int) /\ Same H H' /\ H' D = some (.lst zs)) ⟨by simp, Same.new hD _, aC⟩
  (fun i zs H' hi ⟨e1, _, e3⟩ => ⟨e3, by rw [e1, List.length_map, List.length_take]; omega⟩) (fun i zs H' _ ⟨_, e2, _⟩ => ⟨e2.seqB hA, e2.seqB hB⟩) (by rw [List.length_map]; exact Nat.le_of_lt (aN hl)) ?_ ?_
 ·rintro i x y T0 zs H' hx0 hy0 hT0 ⟨e1, e2, e3⟩
  obtain ⟨x1, hx1, rfl⟩ := aS hx0
  obtain ⟨y1, hy1, rfl⟩ := aS hy0
  have hTD : D ≠ T0 := bH e3 hT0
  refine ⟨T0, _, rfl, SqT.of aC, rfl, _, _, rfl, _, _, rfl, rfl, c6 (n := 2) rfl, ?_⟩
  refine pZ ?_
  refine ⟨_, rfl, _, rfl, _, _, rfl, rfl, ⟨9000, by decide, hx x1 (List.mem_of_getElem? hx1), hy y1 (List.mem_of_getElem? hy1)⟩, by rw [aQ hTD]; exact e3, ?_, (e2.trans (Same.new hT0 _)).upd_old hD, aC⟩
  rw [b9 (zip_get hx1 hy1), List.map_append, e1]; rfl
 ·rintro zs H' ⟨e1, e2, e3⟩
  refine ⟨D, List.zipWith (· * ·) xs ys, rfl, .inl (.inl ?_), q H' e2⟩
  rw [e3, e1, List.take_of_length_le (by rw [List.length_zipWith, List.length_map, List.length_map]; exact Nat.le_refl _)]
end
end Mw
namespace Mw
open PySem L2
section
variable {P : Program} {w : World} {K : PySem.W.Frag} {mg : Str -> Option Value} {base : Heap} {f : Addr} {fd : FuncData} {nf C ns : Addr} {C_Corral X_NoFraction X_NoSide X_MendError X_OneSide X_NoPoint X_NoRow X_NotParted X_NoTable X_NoText X_TooMany X_WrongBook : Addr}
theorem sc_square : FnScope ["one"] ["one"] (aG (top 19)) := ⟨rfl, rfl, rfl, by decide +kernel, rfl, by decide +kernel, by decide +kernel⟩
theorem ok_square (F : Fun K "square" "square" (top 19) f fd) (T : Txt BN mg) (c_product : Cal P w K mg base 1 "product" ["one", "other"] (iX K)) : FnOk P w K mg base CX0 2 f fd ["one"] (jN K) := by
 refine F.ok sc_square (fun vs H Q E h => ?_) (fun cdv A outer s H vs Q E hr h => ?_)
 ·obtain ⟨a, b1, xs, rfl, _⟩ := h
  rfl
 obtain ⟨a, b1, xs, rfl, hA, hl, hx, q⟩ := h
 refine ⟨_, (aH (aU (aR c_product (hr.mono (by decide)) rfl (aA (pv 0) (aA (pv 0) aB))))), ?_⟩
 exact ⟨_, rfl, _, rfl, a, a, b1, b1, xs, xs, rfl, hA, hA, hl, hx, hx, q⟩
end
end Mw
namespace Mw
open PySem L2
section
variable {P : Program} {w : World} {K : PySem.W.Frag} {mg : Str -> Option Value} {base : Heap} {f : Addr} {fd : FuncData} {nf C ns : Addr} {C_Corral X_NoFraction X_NoSide X_MendError X_OneSide X_NoPoint X_NoRow X_NotParted X_NoTable X_NoText X_TooMany X_WrongBook : Addr}
theorem fZ : FnScope ["rows", "sides", "point", "side"] ["rows", "sides"] (aG (top 20)) := ⟨rfl, rfl, rfl, by decide +kernel, rfl, by decide +kernel, by decide +kernel⟩
theorem ok_look_at_sides (F : Fun K "look_at_sides" "look_at_sides" (top 20) f fd) (T : Txt BN mg) (PR : Prog K mg C_Corral X_MendError X_NoFraction X_NoSide X_OneSide X_NoPoint X_NoRow X_NoTable X_NoText X_NotParted X_TooMany X_WrongBook) : FnOk P w K mg base (CXE P w) 2 f fd ["rows", "sides"] (o9 K X_NoSide) := by
 refine F.okX fZ (fun vs H Q E h => ?_) (fun cdv A outer s H vs Q E hr h => ?_)
 ·obtain ⟨a, as, rs, n, rfl, _⟩ := h
  rfl
 obtain ⟨a, as, rs, n, rfl, hA, hR, hS, hE, q⟩ := h
 refine ⟨_, (aH (cI PassesOwn.leaving rfl (bD (pv 0)) (cG (K := K) (n := 2) rfl rfl (aW (aM (i := 2) fZ.nd rfl (Or.inl rfl)) (aW (aM (i := 3) fZ.nd rfl (Or.inl rfl)) cF))) (aH (b8 (oF (pt_chain op_le oN aE (pv 3) (pv 1))) (aH (nF rfl PR.x_NoSide.c rfl PR.x_NoSide.g kN (aA (pe_fstr (pv 3) (by decide)) aB))) bJ)))), ?_⟩
 have hal : as.length = rs.length := Paired.length hR
 refine ⟨_, rfl, a, rfl, ⟨_, hA⟩, ?_⟩
 refine dO (xs := as.map V.ref) (fun i σ H' => ∃ v2 v3 : Option V, σ = [some (.ref a), some (.int n), v2, v3] /\ H' = H /\ ∀ r ∈ rs.take i, InR n r.2) ⟨none, none, rfl, rfl, fun r hr => by simp at hr⟩
  (fun i σ H' _ ⟨_, _, _, e, _⟩ => by rw [e]; exact hA) ?_ ?_
 ·rintro i x σ H' hx ⟨v2, v3, rfl, rfl, hin⟩
  obtain ⟨A0, hA1, rfl⟩ := aS hx
  obtain ⟨r, hr1, p, hr2, hr3⟩ := paired_get hR hA1
  have hrm := List.mem_of_getElem? hr1
  refine ⟨A0, _, rfl, hr2, rfl, _, _, rfl, _, _, rfl, rfl, ?_⟩
  refine ⟨_, rfl, _, _, rfl, rfl, _, rfl, ?_⟩
  refine c9 (fun z => ?_) (fun z => ?_)
  ·have z1 : (0 : Int) <= r.2 := z
   refine ⟨_, rfl, _, _, rfl, rfl, _, rfl, ?_⟩
   refine oP (fun z2 => ?_) (fun z2 => ?_)
   ·have z3 : ¬ r.2 < (n : Int) := z2
    exact ⟨_, rfl, _, rfl, hS r hrm, fun y => ⟨(by show 1 <= sizeLine; decide), hE r hrm fun n => z3 n.2⟩⟩
   ·have z3 : r.2 < (n : Int) := z2
    refine ⟨_, _, rfl, rfl, fun y hy => ?_⟩
    rw [b9 hr1] at hy
    rcases List.mem_append.mp hy with u | u
    ·exact hin y u
    ·rw [List.mem_singleton.mp u]; exact ⟨z1, z3⟩
  ·have z1 : ¬ (0 : Int) <= r.2 := z
   refine ⟨_, rfl, ?_⟩
   refine iI ?_
   exact ⟨_, rfl, _, rfl, hS r hrm, fun y => ⟨(by show 1 <= sizeLine; decide), hE r hrm fun n => z1 n.1⟩⟩
 ·rintro σ H' ⟨v2, v3, rfl, rfl, hin⟩
  rw [List.length_map, hal, List.take_length] at hin
  exact q hin
end
end Mw
namespace Mw
open PySem L2
section
variable {P : Program} {w : World} {K : PySem.W.Frag} {mg : Str -> Option Value} {base : Heap} {f : Addr} {fd : FuncData} {nf C ns : Addr} {C_Corral X_NoFraction X_NoSide X_MendError X_OneSide X_NoPoint X_NoRow X_NotParted X_NoTable X_NoText X_TooMany X_WrongBook : Addr}
theorem d5 : FnScope ["numbers", "multiple", "number"] ["numbers"] (aG (top 21)) := ⟨rfl, rfl, rfl, by decide +kernel, rfl, by decide +kernel, by decide +kernel⟩
theorem ok_least_multiple (F : Fun K "least_multiple" "least_multiple" (top 21) f fd) (T : Txt BN mg) (c_shared_factor : Cal P w K mg base 1 "shared_factor" ["one", "other"] spGcd) : FnOk P w K mg base CX0 2 f fd ["numbers"] (spLcmT K) := by
 refine F.ok d5 (fun vs H Q E h => ?_) (fun cdv A outer s H vs Q E hr h => ?_)
 ·obtain ⟨a, bs, T0, rfl, _⟩ := h
  rfl
 obtain ⟨a, bs, T0, rfl, hS, hT0, hTb, hb, q⟩ := h
 refine ⟨_, (aD (aP (i := 1) d5.nd rfl (Or.inl rfl) aE)
   (aD (cI PassesOwn.never rfl (bD (pv 0)) (aM (i := 2) d5.nd rfl (Or.inl rfl)) (aH (aP (i := 1) d5.nd rfl (Or.inl rfl) (aJ bK (pv 1) (aJ cA (pv 2) (aR c_shared_factor (hr.mono (by decide)) rfl (aA (pv 1) (aA (pv 2) aB))))))))
   (aH (aU (pv 1))))), ?_⟩
 refine ⟨_, rfl, a, rfl, ⟨_, hS⟩, dO (xs := bs.map V.int) (fun i σ H' => ∃ v, σ = [some (.ref a), some (.int (cU (bs.take i))), v] /\ H' = H) ⟨none, rfl, rfl⟩ ?_ ?_ ?_⟩
 ·rintro i σ H' _ ⟨v, rfl, rfl⟩; exact hS
 ·rintro i x σ H' hi ⟨v, rfl, rfl⟩
  obtain ⟨n, hn, rfl⟩ := aS hi
  have hm := hb n (List.mem_of_getElem? hn)
  obtain ⟨hp, hd⟩ := lcmF_T hT0 (bs.take i) fun b hm => hb b (List.mem_of_mem_take hm)
  have hB : Bits 2900 (cU (bs.take i)) := by
   have h1 := Int.le_of_dvd hT0 hd
   have h2 : T0.natAbs < 2 ^ 2900 := hTb
   show (cU (bs.take i)).natAbs < 2 ^ 2900
   omega
  have hnB : Bits 2900 n := by
   have h1 := Int.le_of_dvd hT0 hm.2
   have h2 : T0.natAbs < 2 ^ 2900 := hTb
   show n.natAbs < 2 ^ 2900
   omega
  have gp : 0 < (Int.gcd (cU (bs.take i)) n : Int) := by have := Int.gcd_pos_of_ne_zero_right (cU (bs.take i)) (show n ≠ 0 by omega); omega
  have gl : Int.gcd (cU (bs.take i)) n <= n.natAbs := lY (by omega)
  refine ⟨_, rfl, _, rfl, _, rfl, _, rfl, _, _, rfl, _, _, rfl, rfl, ⟨gp, ?_⟩, _, _, rfl, rfl, ⟨2900, by decide, hB, hnB.le (Int.natAbs_ediv_le_natAbs _ _)⟩, some (.int n), ?_, rfl⟩
  ·refine Bits.mono (n := 2900) ?_ (by decide)
   have h2 : n.natAbs < 2 ^ 2900 := hnB
   show ((Int.gcd (cU (bs.take i)) n : Int)).natAbs < 2 ^ 2900
   omega
  ·rw [b9 hn, qM]; rfl
 ·rintro σ H' ⟨v, rfl, rfl⟩
  rw [List.length_map, List.take_length]
  exact ⟨_, rfl, q⟩
end
end Mw
namespace Mw
open PySem L2
section
variable {P : Program} {w : World} {K : PySem.W.Frag} {mg : Str -> Option Value} {base : Heap} {f : Addr} {fd : FuncData} {nf C ns : Addr} {C_Corral X_NoFraction X_NoSide X_MendError X_OneSide X_NoPoint X_NoRow X_NotParted X_NoTable X_NoText X_TooMany X_WrongBook : Addr}
theorem dR : FnScope ["numbers", "divisor", "number"] ["numbers"] (aG (top 22)) := ⟨rfl, rfl, rfl, by decide +kernel, rfl, by decide +kernel, by decide +kernel⟩
theorem ok_greatest_divisor (F : Fun K "greatest_divisor" "greatest_divisor" (top 22) f fd) (T : Txt BN mg) (c_shared_factor : Cal P w K mg base 1 "shared_factor" ["one", "other"] spGcd) : FnOk P w K mg base CX0 2 f fd ["numbers"] (spGdv K) := by
 refine F.ok dR (fun vs H Q E h => ?_) (fun cdv A outer s H vs Q E hr h => ?_)
 ·obtain ⟨a, ns, rfl, _⟩ := h
  rfl
 obtain ⟨a, ns, rfl, hS, q⟩ := h
 refine ⟨_, (aD (aP (i := 1) dR.nd rfl (Or.inl rfl) aE)
   (aD (cI PassesOwn.never rfl (bD (pv 0)) (aM (i := 2) dR.nd rfl (Or.inl rfl)) (aH (aP (i := 1) dR.nd rfl (Or.inl rfl) (aR c_shared_factor (hr.mono (by decide)) rfl (aA (pv 1) (aA (pv 2) aB))))))
   (aH (aU (pv 1))))), ?_⟩
 refine ⟨_, rfl, a, rfl, ⟨_, hS⟩, dO (xs := ns.map V.int) (fun i σ H' => ∃ v, σ = [some (.ref a), some (.int (bL (ns.take i))), v] /\ H' = H) ⟨none, rfl, rfl⟩ ?_ ?_ ?_⟩
 ·rintro i σ H' _ ⟨v, rfl, rfl⟩; exact hS
 ·rintro i x σ H' hi ⟨v, rfl, rfl⟩
  obtain ⟨n, hn, rfl⟩ := aS hi
  refine ⟨_, rfl, _, rfl, _, _, rfl, some (.int n), ?_, rfl⟩
  rw [b9 hn, gM]; rfl
 ·rintro σ H' ⟨v, rfl, rfl⟩
  rw [List.length_map, List.take_length]
  exact ⟨_, rfl, q⟩
end
end Mw
namespace Mw
open PySem L2
section
variable {P : Program} {w : World} {K : PySem.W.Frag} {mg : Str -> Option Value} {base : Heap} {f : Addr} {fd : FuncData} {nf C ns : Addr} {C_Corral X_NoFraction X_NoSide X_MendError X_OneSide X_NoPoint X_NoRow X_NotParted X_NoTable X_NoText X_TooMany X_WrongBook : Addr}
theorem fU : FnScope ["some", "times", "wholes", "divisor"] ["some"] (aG (top 23)) := ⟨rfl, rfl, rfl, by decide +kernel, rfl, by decide +kernel, by decide +kernel⟩
theorem ok_made_whole (F : Fun K "made_whole" "made_whole" (top 23) f fd) (T : Txt BN mg) (c_least_multiple : Cal P w K mg base 2 "least_multiple" ["numbers"] (spLcmT K)) (c_greatest_divisor : Cal P w K mg base 2 "greatest_divisor" ["numbers"] (spGdv K)) : FnOk P w K mg base CX0 3 f fd ["some"] (spWholeT K) := by
 refine F.ok fU (fun vs H Q E h => ?_) (fun cdv A outer s H vs Q E hr h => ?_)
 ·obtain ⟨a, rs, T0, S, rfl, _⟩ := h
  rfl
 obtain ⟨a, rs, T0, S, rfl, hA, hF, hO, q⟩ := h
 refine ⟨_, (aD (aP (i := 1) fU.nd rfl (Or.inr rfl) (aR c_least_multiple (hr.mono (by decide)) rfl (aA (bQ (sc := aG (top 23)) (N := ["some", "times", "wholes", "divisor"]) (NB := ["top", "bottom"]) (fr := [none, none]) rfl (by decide +kernel) (lN (pv 0)) (fun _ _ _ _ => (cG (K := K) (n := 2) rfl rfl (aW (aM (i := 0) (show (["top", "bottom"] : List Str).Nodup by decide +kernel) rfl (Or.inl rfl)) (aW (aM (i := 1) (show (["top", "bottom"] : List Str).Nodup by decide +kernel) rfl (Or.inl rfl)) cF)))) (fun _ _ _ _ => .nil) (fun _ _ _ _ => (pv 1))) aB)))
   (aD (dU (i := 2) fU.nd rfl rfl (sc := aG (top 23)) (N := ["some", "times", "wholes", "divisor"]) (NB := ["top", "bottom", "times"]) (fr := [none, none, some 1]) rfl (by decide +kernel) (lN (pv 0)) (fun _ _ _ _ => (cG (K := K) (n := 2) rfl rfl (aW (aM (i := 0) (show (["top", "bottom", "times"] : List Str).Nodup by decide +kernel) rfl (Or.inl rfl)) (aW (aM (i := 1) (show (["top", "bottom", "times"] : List Str).Nodup by decide +kernel) rfl (Or.inl rfl)) cF)))) (fun _ _ _ _ => .nil) (fun _ _ _ _ => (aJ bK (pv 0) (aJ cA (pv 2) (pv 1)))))
   (aD (aP (i := 3) fU.nd rfl (Or.inr rfl) (aR c_greatest_divisor (hr.mono (by decide)) rfl (aA (pv 2) aB)))
   (aD (b8 (bB dH (pv 3) aE (bA _)) (aH (aU (bY (d0 (K := K) rfl) rfl (T.nb "tuple" (by decide)) (by decide +kernel) (aA (pv 2) aB)))) bJ)
   (aH (aU (bY (d0 (K := K) rfl) rfl (T.nb "tuple" (by decide)) (by decide +kernel) (aA (bQ (sc := aG (top 23)) (N := ["some", "times", "wholes", "divisor"]) (NB := ["whole", "divisor"]) (fr := [none, some 3]) rfl (by decide +kernel) (bD (pv 2)) (fun _ _ _ _ => (aM (i := 0) (show (["whole", "divisor"] : List Str).Nodup by decide +kernel) rfl (Or.inl rfl))) (fun _ _ _ _ => .nil) (fun _ _ _ _ => (aJ cA (pv 0) (pv 1)))) aB)))))))), ?_⟩
 have hrl : rs.length = S.length := by rw [Paired.length hF, List.length_map]
 have hfew := hO.few
 have hT0 := hO.pos
 have hsm : (rs.map V.ref).length <= sizeLine := by rw [List.length_map]; exact Nat.le_of_lt (aN (by omega))
 have hyT : ∀ w, aI w T0 ∣ T0 := fun w => ⟨fac w T0, (kQ w T0).symm⟩
 refine ⟨_, rfl, a, rfl, ⟨_, hA⟩, fun D1 hD1 => ?_⟩
 refine jJ (xs := rs.map V.ref) (fun _ i y => ∃ w, S[i]? = some w /\ y = .int (aI w T0)) (fun _ _ _ _ _ r => r) hA hsm hD1 ?_ ?_
 ·intro i x H' R hx1 s1 _ r1
  obtain ⟨A, hA1, rfl⟩ := aS hx1
  obtain ⟨w, hw, hAH⟩ := fY hF hA1
  refine ⟨A, _, rfl, SqT.of (s1 _ _ hAH), rfl, _, _, rfl, _, _, rfl, rfl, c6 (n := 2) rfl, ?_⟩
  exact ⟨_, rfl, r1 _ _ (Same.refl _) ⟨w, hw, rfl⟩⟩
 intro ys H1 s1 hL1 hyl hys
 have eys : ys = (S.map fun w => aI w T0).map V.int := by
  rw [List.map_map]
  refine dG (by rw [hyl, List.length_map, hrl]) fun i y r hi hr => ?_
  obtain ⟨x, g1, g2⟩ := hys i y hi
  rw [hr] at g1
  cases g1
  exact g2
 subst eys
 have hbb : ∀ b ∈ S.map fun w => aI w T0, 0 < b /\ b ∣ T0 := fun b hb => by
  obtain ⟨w, _, rfl⟩ := List.mem_map.mp hb
  exact ⟨bR (by omega), hyT w⟩
 refine ⟨D1, _, T0, rfl, SqL.of hL1, hT0, hO.bits, hbb, ?_⟩
 obtain ⟨hL0, hLT⟩ := lcmF_T hT0 _ hbb
 have hLw : ∀ w ∈ S, aI w T0 ∣ cU (S.map fun w => aI w T0) := fun w hw => lcmF_dvd (List.mem_map.mpr ⟨w, hw, rfl⟩)
 generalize cU (S.map fun w => aI w T0) = L at *
 have hLb : Bits 2900 L := by
  have h1 := Int.le_of_dvd hT0 hLT
  have h2 : T0.natAbs < 2 ^ 2900 := hO.bits
  show L.natAbs < 2 ^ 2900
  omega
 have hpb : ∀ w, Bits 9000 (aI w T0) := fun w => (hO.bits.le (gK w T0)).mono (by decide)
 have hcross : ∀ w ∈ S, T0 * (aL w T0 * (L / aI w T0)) = L * w := fun w hw => by
  have c := cH (t := w) (b := T0)
  have m := Int.ediv_mul_cancel (hLw w hw)
  generalize L / aI w T0 = Y at *
  generalize aI w T0 = y at *
  generalize aL w T0 = x at *
  subst m
  grind
 refine ⟨_, rfl, a, rfl, ⟨_, s1.seqT hA⟩, fun D2 hD2 => ?_⟩
 refine jJ (xs := rs.map V.ref) (fun _ i y => ∃ w, S[i]? = some w /\ y = .int (aL w T0 * (L / aI w T0))) (fun _ _ _ _ _ r => r) (s1.seqT hA) hsm hD2 ?_ ?_
 ·intro i x H' R hx1 s2 _ r1
  obtain ⟨A, hA1, rfl⟩ := aS hx1
  obtain ⟨w, hw, hAH⟩ := fY hF hA1
  have hwm := List.mem_of_getElem? hw
  refine ⟨A, _, rfl, SqT.of ((s1.trans s2) _ _ hAH), rfl, _, _, rfl, _, _, rfl, rfl, ⟨rfl, ?_⟩, ?_⟩
  ·intro k v ek
   match k, ek with
   | 2, ek => exact ek
   | 0, ek => simp [aX] at ek
   | 1, ek => simp [aX] at ek
   | k + 3, ek => simp [aX] at ek
  refine ⟨_, rfl, _, rfl, _, rfl, _, _, rfl, rfl, ⟨bR (by omega), hpb w⟩, _, _, rfl, rfl, ⟨6000, by decide, ((hO.big w hwm).le (gJ w T0)).mono (by decide), (hLb.le (Int.natAbs_ediv_le_natAbs _ _)).mono (by decide)⟩, ?_⟩
  exact r1 _ _ (Same.refl _) ⟨w, hw, rfl⟩
 intro ys H2 s2 hL2 hyl2 hys2
 have eys : ys = (S.map fun w => aL w T0 * (L / aI w T0)).map V.int := by
  rw [List.map_map]
  refine dG (by rw [hyl2, List.length_map, hrl]) fun i y r hi hr => ?_
  obtain ⟨x, g1, g2⟩ := hys2 i y hi
  rw [hr] at g1
  cases g1
  exact g2
 subst eys
 have hpr : (if bL (S.map fun w => aL w T0 * (L / aI w T0)) = 0 then (S.map fun w => aL w T0 * (L / aI w T0)) else (S.map fun w => aL w T0 * (L / aI w T0)).map fun x => x / bL (S.map fun w => aL w T0 * (L / aI w T0))) = c5 S := primL_scale hT0 hL0 (by
  rw [List.map_map]
  exact List.map_congr_left fun w hw => hcross w hw)
 have hwl : (S.map fun w => aL w T0 * (L / aI w T0)).length = S.length := List.length_map _
 have hwb : ∀ x ∈ S.map fun w => aL w T0 * (L / aI w T0), Bits 8800 x := fun x hx => by
  obtain ⟨w, hw, rfl⟩ := List.mem_map.mp hx
  exact ((hO.big w hw).le (gJ w T0)).mul (hLb.le (Int.natAbs_ediv_le_natAbs _ _))
 generalize (S.map fun w => aL w T0 * (L / aI w T0)) = W at *
 have s12 := s1.trans s2
 refine ⟨_, rfl, D2, _, rfl, SqL.of hL2, ?_⟩
 refine ⟨_, rfl, rfl, _, rfl, ?_⟩
 have g0 := gcdL_nonneg W
 refine c9 (fun z => ?_) (fun z => ?_)
 ·have z1 : bL W = 0 := by have : V.int (bL W) = V.int 0 := z; injection this
  rw [if_pos z1] at hpr
  refine ⟨_, rfl, D2, _, rfl, .inl ⟨SqL.of hL2, fun l hl => ?_⟩⟩
  refine q l _ (s12.trans (Same.new hl _)) (s12.free hl) ?_
  rw [aC, hpr]
 ·have z1 : bL W ≠ 0 := fun y => z (by show V.int (bL W) = V.int 0; rw [y])
  rw [if_neg z1] at hpr
  have hgp : 0 < bL W := by omega
  have hgb : Bits 9000 (bL W) := by
   obtain ⟨x, hx, hx0⟩ : ∃ x ∈ W, x ≠ 0 := Classical.byContradiction fun y => z1 (by
    have : ∀ x ∈ W, x = 0 := fun x hx => Classical.byContradiction fun w => y ⟨x, hx, w⟩
    exact lB this)
   have h1 := jG W x hx
   have h2 : (bL W).natAbs ∣ x.natAbs := Int.natAbs_dvd_natAbs.mpr h1
   have h3 := Nat.le_of_dvd (by omega) h2
   have h4 : x.natAbs < 2 ^ 8800 := hwb x hx
   exact Bits.mono (n := 8800) (show (bL W).natAbs < 2 ^ 8800 by omega) (by decide)
  refine ⟨_, rfl, D2, rfl, ⟨_, SqL.of hL2⟩, fun D3 hD3 => ?_⟩
  refine aZ (xs := W.map V.int) (fun _ i y => ∃ w, W[i]? = some w /\ y = .int (w / bL W)) (fun _ _ _ _ _ r => r) (SqL.of hL2) (by rw [List.length_map]; exact Nat.le_of_lt (aN (by omega))) hD3 ?_ ?_
  ·intro i x H' R hx1 s3 _ r1
   obtain ⟨w, hw, rfl⟩ := aS hx1
   refine ⟨wk1 rfl, ?_⟩
   exact ⟨_, rfl, _, rfl, _, _, rfl, rfl, ⟨hgp, hgb⟩, r1 _ _ (Same.refl _) ⟨w, hw, rfl⟩⟩
  intro ys H3 s3 hL3 hyl3 hys3
  have eys : ys = (W.map fun w => w / bL W).map V.int := by
   rw [List.map_map]
   refine dG (by rw [hyl3, List.length_map]) fun i y r hi hr => ?_
   obtain ⟨x, g1, g2⟩ := hys3 i y hi
   rw [hr] at g1
   cases g1
   exact g2
  subst eys
  refine ⟨D3, _, rfl, .inl ⟨SqL.of hL3, fun l hl => ?_⟩⟩
  refine q l _ ((s12.trans s3).trans (Same.new hl _)) ((s12.trans s3).free hl) ?_
  rw [aC, hpr]
end
end Mw
namespace Mw
open PySem L2
section
variable {P : Program} {w : World} {K : PySem.W.Frag} {mg : Str -> Option Value} {base : Heap} {f : Addr} {fd : FuncData} {nf C ns : Addr} {C_Corral X_NoFraction X_NoSide X_MendError X_OneSide X_NoPoint X_NoRow X_NotParted X_NoTable X_NoText X_TooMany X_WrongBook : Addr}
theorem i9 : FnScope ["vectors", "tops", "totals", "vector", "top"] ["vectors", "tops"] (aG (top 25)) := ⟨rfl, rfl, rfl, by decide +kernel, rfl, by decide +kernel, by decide +kernel⟩
theorem ok_mixed (F : Fun K "mixed" "mixed" (top 25) f fd) (T : Txt BN mg) : FnOk P w K mg base CX0 1 f fd ["vectors", "tops"] (spMixW K) := by
 refine F.ok i9 (fun vs H Q E h => ?_) (fun cdv A outer s H vs Q E hr h => ?_)
 ·obtain ⟨a, b, as, ws, ts, n, rfl, _⟩ := h
  rfl
 obtain ⟨a, b, as, ws, ts, n, rfl, hA, hPs, hne, hlen, hB, htl, hwl, hn, hx, ht, q⟩ := h
 refine ⟨_, (aD (aP (i := 2) i9.nd rfl (Or.inl rfl) (aJ lR (bO (aA aE aB)) (aY (cZ (K := K) rfl) rfl (T.nb "len" (by decide)) (by decide +kernel) (aA (bC (bE (K := K) rfl) (pv 0) aE (fun _ _ => rfl)) aB))))
   (aD (cI PassesOwn.never rfl (fN rfl (T.nb "zip" (by decide)) (aA (pv 0) (aA (pv 1) aB))) (cG (K := K) (n := 2) rfl rfl (aW (aM (i := 3) i9.nd rfl (Or.inl rfl)) (aW (aM (i := 4) i9.nd rfl (Or.inr rfl)) cF))) (aH (b8 (bB oM (pv 4) aE (bA _)) (aH (dU (i := 2) i9.nd rfl rfl (sc := aG (top 25)) (N := ["vectors", "tops", "totals", "vector", "top"]) (NB := ["total", "number", "top"]) (fr := [none, none, some 4]) rfl (by decide +kernel) (fN rfl (T.nb "zip" (by decide)) (aA (pv 2) (aA (pv 3) aB))) (fun _ _ _ _ => (cG (K := K) (n := 2) rfl rfl (aW (aM (i := 0) (show (["total", "number", "top"] : List Str).Nodup by decide +kernel) rfl (Or.inl rfl)) (aW (aM (i := 1) (show (["total", "number", "top"] : List Str).Nodup by decide +kernel) rfl (Or.inl rfl)) cF)))) (fun _ _ _ _ => .nil) (fun _ _ _ _ => (aJ cB (pv 0) (aJ bK (pv 2) (pv 1)))))) bJ)))
   (aH (aU (pv 2))))), ?_⟩
 obtain ⟨w0, hw0⟩ : ∃ w0, ws[0]? = some w0 := by
  cases ws with
  | nil => exact absurd rfl hne
  | cons w r => exact ⟨w, rfl⟩
 obtain ⟨a0, ha0, hp0⟩ := paired_get' hPs hw0
 have hl0 := hlen w0 (List.mem_of_getElem? hw0)
 have hal : as.length = ws.length := Paired.length hPs
 refine ⟨(by show 1 <= sizeLine; decide), fun p0 hp1 => ?_⟩
 have s0 := Same.new hp1 (.lst [.int 0])
 refine ⟨_, rfl, a, _, _, _, rfl, rfl, s0.seq hA, bW (j := 0) (by rw [List.getElem?_map, ha0]; rfl), a0, _, rfl, .inr (s0.seqT hp0), p0, _, _, rfl, rfl, aC, ?_⟩
 rw [List.length_map, hl0]
 refine ⟨by omega, by omega, ?_, fun p2 hp2 => ?_⟩
 ·rw [Int.toNat_natCast]; show 1 * n <= sizeLine; rw [Nat.one_mul]; exact Nat.le_of_lt (aN hn)
 have e0 : (List.replicate (n : Int).toNat [V.int 0]).flatten = (List.replicate n (0 : Int)).map V.int := by
  rw [Int.toNat_natCast]; simp
 rw [e0]
 have s2 := s0.trans (Same.new hp2 (.lst ((List.replicate n (0 : Int)).map V.int)))
 have hP2 : upd (upd H p0 (.lst [.int 0])) p2 (.lst ((List.replicate n (0 : Int)).map V.int)) p2 = some (.lst ((List.replicate n (0 : Int)).map V.int)) := aC
 have hfr : H p2 = none := s0.free hp2
 generalize upd (upd H p0 (.lst [.int 0])) p2 (.lst ((List.replicate n (0 : Int)).map V.int)) = H2 at *
 refine ⟨_, rfl, _, rfl, false, false, a, b, rfl, ⟨_, s2.seq hA⟩, ⟨_, s2.seq hB⟩, ?_⟩
 refine kF (b1 := false) (b2 := false) (xs := as.map V.ref) (ys := ts.map V.int) (fun i σ H' => ∃ (tt : Addr) (v3 v4 : Option V), σ = [some (.ref a), some (.ref b), some (.ref tt), v3, v4] /\ Same H2 H' /\ H tt = none /\ H' tt = some (.lst ((gE n (ws.take i) (ts.take i)).map V.int)))
  ⟨p2, none, none, rfl, Same.refl _, hfr, by rw [hP2]; simp [gE]⟩
  (fun i σ H' _ ⟨_, _, _, _, s4, _⟩ => ⟨s4.seq (s2.seq hA), s4.seq (s2.seq hB)⟩) ?_ ?_
 ·rintro i x y T0 σ H' hx1 hy1 hT0 ⟨tt, v3, v4, rfl, s4, htt, hL⟩
  obtain ⟨A, hA1, rfl⟩ := aS hx1
  obtain ⟨t, ht1, rfl⟩ := aS hy1
  obtain ⟨v, hv1, hAv⟩ := paired_get hPs hA1
  have hvl := hlen v (List.mem_of_getElem? hv1)
  have hml : (gE n (ws.take i) (ts.take i)).length = n := mixF_len fun v hv => hlen v (List.mem_of_mem_take hv)
  have s5 := s4.trans (Same.new hT0 (.tup [.ref A, .int t]))
  have hL5 : upd H' T0 (.tup [.ref A, .int t]) tt = some (.lst ((gE n (ws.take i) (ts.take i)).map V.int)) := (Same.new hT0 _) _ _ hL
  have hA5 : SqT K (upd H' T0 (.tup [.ref A, .int t])) A (v.map V.int) := s5.seqT (s2.seqT hAv)
  refine ⟨T0, _, rfl, SqT.of aC, rfl, _, _, rfl, _, _, rfl, rfl, ?_⟩
  refine ⟨_, rfl, rfl, _, rfl, ?_⟩
  have hms := mixF_snoc (n := n) hv1 ht1
  refine oP (fun z => ?_) (fun z => ?_)
  ·refine ⟨_, rfl, _, rfl, false, true, tt, A, rfl, ⟨_, SqL.of hL5⟩, ⟨_, hA5⟩, fun D hD => ?_⟩
   have hDH : H D = none := (s2.trans s5).free hD
   refine nR (b1 := false) (b2 := true) (us := (gE n (ws.take i) (ts.take i)).map V.int) (vs := v.map V.int) (fun j zs H'' => zs = ((mv t (gE n (ws.take i) (ts.take i)) v).take j).map V.int /\ Same (upd H' T0 (.tup [.ref A, .int t])) H'' /\ H'' D = some (.lst zs)) ⟨by simp, Same.new hD _, aC⟩
    (fun j zs H' hj ⟨f1, _, f3⟩ => ⟨f3, by rw [f1, List.length_map, List.length_take]; omega⟩) (fun j zs H' _ ⟨_, f2, _⟩ => ⟨SqL.of (f2 _ _ hL5), f2.seqT hA5⟩) (by rw [List.length_map, hml]; exact Nat.le_of_lt (aN hn)) ?_ ?_
   ·rintro j x2 y2 T1 zs H'' hx2 hy2 hT1 ⟨f1, f2, f3⟩
    obtain ⟨w1, hw1, rfl⟩ := aS hx2
    obtain ⟨n1, hn1, rfl⟩ := aS hy2
    have hTD : D ≠ T1 := bH f3 hT1
    refine ⟨T1, _, rfl, SqT.of aC, rfl, _, _, rfl, _, _, rfl, rfl, ⟨rfl, ?_⟩, ?_⟩
    ·intro k v ek
     match k, ek with
     | 2, ek => exact ek
     | 0, ek => simp [aX] at ek
     | 1, ek => simp [aX] at ek
     | k + 3, ek => simp [aX] at ek
    refine pZ ?_
    refine ⟨_, rfl, _, rfl, _, rfl, _, _, rfl, rfl, ⟨9000, by decide, ht t (List.mem_of_getElem? ht1), hx v (List.mem_of_getElem? hv1) n1 (List.mem_of_getElem? hn1)⟩, _, _, rfl, rfl, by rw [aQ hTD]; exact f3, ?_, (f2.trans (Same.new hT1 _)).upd_old hD, aC⟩
    unfold mv at f1 ⊢
    rw [b9 (zipWith_get hw1 hn1), List.map_append, f1]; rfl
   ·rintro zs H3 ⟨f1, f2, f3⟩
    refine ⟨D, _, _, rfl, s5.trans f2, hDH, ?_⟩
    rw [f3, f1, hms, List.take_of_length_le]
    unfold mv
    rw [List.length_zipWith, List.length_map, List.length_map]; exact Nat.le_refl _
  ·have z0 : t = 0 := by injection z
   refine ⟨tt, _, _, rfl, s5, htt, ?_⟩
   rw [hL5, hms, z0, mv_zero (by rw [hml, hvl])]
 ·rintro σ H' ⟨tt, v3, v4, rfl, s4, htt, hL⟩
  rw [List.length_map, List.length_map, hal, htl, Nat.min_self, List.take_length, List.take_of_length_le (by rw [htl]; exact Nat.le_refl _)] at hL
  exact ⟨_, rfl, q tt H' _ (s2.trans s4) htt hL (lT hlen htl)⟩
end
end Mw
namespace Mw
open PySem L2
section
variable {P : Program} {w : World} {K : PySem.W.Frag} {mg : Str -> Option Value} {base : Heap} {f : Addr} {fd : FuncData} {nf C ns : Addr} {C_Corral X_NoFraction X_NoSide X_MendError X_OneSide X_NoPoint X_NoRow X_NotParted X_NoTable X_NoText X_TooMany X_WrongBook : Addr}
theorem kM : FnScope ["vectors", "shares", "common", "tops"] ["vectors", "shares"] (aG (top 26)) := ⟨rfl, rfl, rfl, by decide +kernel, rfl, by decide +kernel, by decide +kernel⟩
theorem ok_mixture (F : Fun K "mixture" "mixture" (top 26) f fd) (T : Txt BN mg) (c_least_multiple : Cal P w K mg base 2 "least_multiple" ["numbers"] (spLcmT K)) (c_mixed : Cal P w K mg base 1 "mixed" ["vectors", "tops"] (spMixW K)) (c_part : CalX P w K mg base 2 "part" ["top", "bottom"] (j9 nf)) : FnOk P w K mg base CX0 3 f fd ["vectors", "shares"] (spMixT K) := by
 refine F.ok kM (fun vs H Q E h => ?_) (fun cdv A outer s H vs Q E hr h => ?_)
 ·obtain ⟨a, b, as, ss, vs, ws, T0, n, e, rfl, _⟩ := h
  rfl
 obtain ⟨a, b, as, ss, vs, ws, T0, n, e, rfl, hA, hPs, hne, hdim, hB, hF, hO, hwl, hn, hx, he, hTe, q⟩ := h
 refine ⟨_, (aD (aP (i := 2) kM.nd rfl (Or.inr rfl) (aR c_least_multiple (hr.mono (by decide)) rfl (aA (bQ (sc := aG (top 26)) (N := ["vectors", "shares", "common", "tops"]) (NB := ["top", "bottom"]) (fr := [none, none]) rfl (by decide +kernel) (bD (pv 1)) (fun _ _ _ _ => (cG (K := K) (n := 2) rfl rfl (aW (aM (i := 0) (show (["top", "bottom"] : List Str).Nodup by decide +kernel) rfl (Or.inl rfl)) (aW (aM (i := 1) (show (["top", "bottom"] : List Str).Nodup by decide +kernel) rfl (Or.inl rfl)) cF)))) (fun _ _ _ _ => .nil) (fun _ _ _ _ => (pv 1))) aB)))
   (aD (dU (i := 3) kM.nd rfl rfl (sc := aG (top 26)) (N := ["vectors", "shares", "common", "tops"]) (NB := ["top", "bottom", "common"]) (fr := [none, none, some 2]) rfl (by decide +kernel) (bD (pv 1)) (fun _ _ _ _ => (cG (K := K) (n := 2) rfl rfl (aW (aM (i := 0) (show (["top", "bottom", "common"] : List Str).Nodup by decide +kernel) rfl (Or.inl rfl)) (aW (aM (i := 1) (show (["top", "bottom", "common"] : List Str).Nodup by decide +kernel) rfl (Or.inl rfl)) cF)))) (fun _ _ _ _ => .nil) (fun _ _ _ _ => (aJ bK (pv 0) (aJ cA (pv 2) (pv 1)))))
   (aH (aU (bY (d0 (K := K) rfl) rfl (T.nb "tuple" (by decide)) (by decide +kernel) (aA (bQ (sc := aG (top 26)) (N := ["vectors", "shares", "common", "tops"]) (NB := ["total", "common"]) (fr := [none, some 2]) rfl (by decide +kernel) (bD (aR c_mixed (hr.mono (by decide)) rfl (aA (pv 0) (aA (pv 3) aB)))) (fun _ _ _ _ => (aM (i := 0) (show (["total", "common"] : List Str).Nodup by decide +kernel) rfl (Or.inl rfl))) (fun _ _ _ _ => .nil) (fun _ _ _ _ => (b6 c_part (hr.mono (by decide)) rfl cC (aA (pv 0) (aA (pv 1) aB))))) aB)))))), ?_⟩
 have hsl : ss.length = ws.length := by rw [Paired.length hF, List.length_map]
 have hfew := hO.few
 have hT0 := hO.pos
 have hBL : SqL K H b (ss.map V.ref) := SqL.of hB
 have hsm : (ss.map V.ref).length <= sizeLine := by rw [List.length_map]; exact Nat.le_of_lt (aN (by omega))
 have hyT : ∀ w, aI w T0 ∣ T0 := fun w => ⟨fac w T0, (kQ w T0).symm⟩
 refine ⟨_, rfl, b, rfl, ⟨_, hBL⟩, fun D1 hD1 => ?_⟩
 refine aZ (xs := ss.map V.ref) (fun _ i y => ∃ w, ws[i]? = some w /\ y = .int (aI w T0)) (fun _ _ _ _ _ r => r) hBL hsm hD1 ?_ ?_
 ·intro i x H' R hx1 s1 _ r1
  obtain ⟨A, hA1, rfl⟩ := aS hx1
  obtain ⟨w, hw, hAH⟩ := fY hF hA1
  refine ⟨A, _, rfl, SqT.of (s1 _ _ hAH), rfl, _, _, rfl, _, _, rfl, rfl, c6 (n := 2) rfl, ?_⟩
  exact ⟨_, rfl, r1 _ _ (Same.refl _) ⟨w, hw, rfl⟩⟩
 intro ys H1 s1 hL1 hyl hys
 have eys : ys = (ws.map fun w => aI w T0).map V.int := by
  rw [List.map_map]
  refine dG (by rw [hyl, List.length_map, hsl]) fun i y r hi hr => ?_
  obtain ⟨x, g1, g2⟩ := hys i y hi
  rw [hr] at g1
  cases g1
  exact g2
 subst eys
 have hbb : ∀ b ∈ ws.map fun w => aI w T0, 0 < b /\ b ∣ T0 := fun b hb => by
  obtain ⟨w, _, rfl⟩ := List.mem_map.mp hb
  exact ⟨bR (by omega), hyT w⟩
 refine ⟨D1, _, T0, rfl, SqL.of hL1, hT0, hO.bits, hbb, ?_⟩
 obtain ⟨hL0, hLT⟩ := lcmF_T hT0 _ hbb
 have hLw : ∀ w ∈ ws, aI w T0 ∣ cU (ws.map fun w => aI w T0) := fun w hw => lcmF_dvd (List.mem_map.mpr ⟨w, hw, rfl⟩)
 generalize cU (ws.map fun w => aI w T0) = L at *
 have hLe : L.natAbs <= T0.natAbs := by have := Int.le_of_dvd hT0 hLT; omega
 have hLb : Bits 2900 L := by
  have h2 : T0.natAbs < 2 ^ 2900 := hO.bits
  show L.natAbs < 2 ^ 2900
  omega
 obtain ⟨t1, t2, t3, t4, t5⟩ := tops_ok hO hL0 hLT hLw hLb
 have hpb : ∀ w, Bits 9000 (aI w T0) := fun w => (hO.bits.le (gK w T0)).mono (by decide)
 refine ⟨_, rfl, b, rfl, ⟨_, s1.seq hBL⟩, fun D2 hD2 => ?_⟩
 refine aZ (xs := ss.map V.ref) (fun _ i y => ∃ w, ws[i]? = some w /\ y = .int (aL w T0 * (L / aI w T0))) (fun _ _ _ _ _ r => r) (s1.seq hBL) hsm hD2 ?_ ?_
 ·intro i x H' R hx1 s2 _ r1
  obtain ⟨A, hA1, rfl⟩ := aS hx1
  obtain ⟨w, hw, hAH⟩ := fY hF hA1
  have hwm := List.mem_of_getElem? hw
  have hw0 := hO.nn w hwm
  have hwT : w <= T0 := by rw [<- hO.sum]; exact (lE hO.nn).2 w hwm
  have bw := frac_bits hO.bits hw0 hwT
  refine ⟨A, _, rfl, SqT.of ((s1.trans s2) _ _ hAH), rfl, _, _, rfl, _, _, rfl, rfl, ⟨rfl, ?_⟩, ?_⟩
  ·intro k v ek
   match k, ek with
   | 2, ek => exact ek
   | 0, ek => simp [aX] at ek
   | 1, ek => simp [aX] at ek
   | k + 3, ek => simp [aX] at ek
  refine ⟨_, rfl, _, rfl, _, rfl, _, _, rfl, rfl, ⟨bR (by omega), hpb w⟩, _, _, rfl, rfl, ⟨2900, by decide, bw.1, hLb.le (Int.natAbs_ediv_le_natAbs _ _)⟩, ?_⟩
  exact r1 _ _ (Same.refl _) ⟨w, hw, rfl⟩
 intro ys H2 s2 hL2 hyl2 hys2
 have eys : ys = (ws.map fun w => aL w T0 * (L / aI w T0)).map V.int := by
  rw [List.map_map]
  refine dG (by rw [hyl2, List.length_map, hsl]) fun i y r hi hr => ?_
  obtain ⟨x, g1, g2⟩ := hys2 i y hi
  rw [hr] at g1
  cases g1
  exact g2
 subst eys
 generalize (ws.map fun w => aL w T0 * (L / aI w T0)) = ts at *
 have s12 := s1.trans s2
 refine ⟨_, rfl, _, rfl, a, D2, as, vs, ts, n, rfl, s12.seq hA, hPs.same s12, hne, hdim, SqL.of hL2, by omega, by omega, by omega, fun v hv x hxv => ?_, fun t ht => (t2 t ht).mono (by decide), fun r H3 M s3 hr0 hR hM => ?_⟩
 ·show x.natAbs < 2 ^ 9000
  exact Nat.lt_of_le_of_lt (hx v hv x hxv) (Nat.pow_lt_pow_right (by decide) (by omega))
 have hMl := hM.1
 have hMb : ∀ t ∈ M, Bits 3000 t := fun t ht => by
  have h1 := m8 hM (by omega) t3 t4 hx t ht
  have h2 : L.natAbs * 2 ^ e <= T0.natAbs * 2 ^ e := Nat.mul_le_mul_right _ hLe
  have h3 : (2 : Nat) ^ 2950 < 2 ^ 3000 := Nat.pow_lt_pow_right (by decide) (by decide)
  show t.natAbs < 2 ^ 3000
  exact Nat.lt_of_le_of_lt h1 (Nat.lt_of_le_of_lt h2 (Nat.lt_trans hTe h3))
 have hS0 := lT hdim hwl
 generalize gE n vs ws = S at *
 have sc := scale_spot hM hS0 (T := T0) (L := L) fun i hi => t1 i (by omega)
 have hSl := hS0.1
 have hfr : ∀ (j : Nat) t s, M[j]? = some t -> S[j]? = some s -> aL t L = aL s T0 /\ aI t L = aI s T0 := fun j t s h1 h2 => frac_same hL0 hT0 (by
  have := sc j (by have := (List.getElem?_eq_some_iff.mp h1).1; omega)
  rw [List.getD_eq_getElem?_getD, h1, List.getD_eq_getElem?_getD, h2] at this; exact this)
 refine ⟨r, rfl, ⟨_, SqL.of hR⟩, fun D3 hD3 => ?_⟩
 refine aZ (xs := M.map V.int) (fun H' i y => ∃ bb t, y = V.ref bb /\ bb ≠ D3 /\ M[i]? = some t /\ H' bb = some (.tup [.int (aL t L), .int (aI t L)])) ?_ (SqL.of hR) (by rw [List.length_map, hMl]; exact Nat.le_of_lt (aN (by omega))) hD3 ?_ ?_
 ·rintro H' H'' i y o ⟨bb, t, e1, e2, e3, e4⟩
  exact ⟨bb, t, e1, e2, e3, o _ _ e2 e4⟩
 ·intro i x H' R hx1 s4 hDn r1
  obtain ⟨t, ht1, rfl⟩ := aS hx1
  refine ⟨⟨rfl, ?_⟩, ?_⟩
  ·intro k v ek
   match k, ek with
   | 1, ek => exact ek
   | 0, ek => simp [aX] at ek
   | k + 2, ek => simp [aX] at ek
  refine ⟨_, rfl, _, rfl, t, L, rfl, hMb t (List.mem_of_getElem? ht1), hLb.mono (by decide), fun z => absurd z (by omega), fun _ p hp => ?_⟩
  refine r1 _ _ (Same.new hp _) ⟨p, t, rfl, fun z => hDn (by rw [<- z]; exact hp), ht1, aC⟩
 intro ys H4 s4 hL4 hyl4 hys4
 obtain ⟨cs, rfl, hcs⟩ := mM (P := fun j b => ∃ t, M[j]? = some t /\ H4 b = some (.tup [.int (aL t L), .int (aI t L)])) (fun j y hy => by
  obtain ⟨b, t, e1, e2, e3, e4⟩ := hys4 j y hy
  exact ⟨b, e1, t, e3, e4⟩)
 refine ⟨D3, _, rfl, .inl ⟨SqL.of hL4, fun u2 hu2 => ?_⟩⟩
 refine q u2 _ cs S (s12.trans (s3.trans (s4.trans (Same.new hu2 _)))) ((s12.trans (s3.trans s4)).free hu2) aC (eM ?_ fun j b f hb hf => ?_) hS0
 ·rw [List.length_map, List.length_map] at hyl4; rw [List.length_map]; omega
 ·obtain ⟨s, hs, rfl⟩ := iY hf
  obtain ⟨t, e1, e2⟩ := hcs j b hb
  obtain ⟨f1, f2⟩ := hfr j t s e1 hs
  have e3 := (Same.new hu2 (.tup (cs.map V.ref))) _ _ e2
  rw [f1, f2] at e3
  exact e3
end
end Mw
namespace Mw
open PySem L2
section
variable {P : Program} {w : World} {K : PySem.W.Frag} {mg : Str -> Option Value} {base : Heap} {f : Addr} {fd : FuncData} {nf C ns : Addr} {C_Corral X_NoFraction X_NoSide X_MendError X_OneSide X_NoPoint X_NoRow X_NotParted X_NoTable X_NoText X_TooMany X_WrongBook : Addr}
theorem sc_combined : FnScope ["one", "times", "other", "other_times", "divisor"] ["one", "times", "other", "other_times", "divisor"] (aG (top 27)) := ⟨rfl, rfl, rfl, by decide +kernel, rfl, by decide +kernel, by decide +kernel⟩
theorem ok_combined (F : Fun K "combined" "combined" (top 27) f fd) (T : Txt BN mg) : FnOk P w K mg base CX0 1 f fd ["one", "times", "other", "other_times", "divisor"] (nZ K) := by
 refine F.ok sc_combined (fun vs H Q E h => ?_) (fun cdv A outer s H vs Q E hr h => ?_)
 ·obtain ⟨a, b, xs, ys, t, u, D, rfl, _⟩ := h
  rfl
 obtain ⟨a, b, xs, ys, t, u, D, rfl, hA, hB, hl, ht, hu, hx, hy, hD0, hD9, q⟩ := h
 refine ⟨_, (aH (aU (bQ (sc := aG (top 27)) (N := ["one", "times", "other", "other_times", "divisor"]) (NB := ["first", "second", "divisor", "times", "other_times"]) (fr := [none, none, some 4, some 1, some 3]) rfl (by decide +kernel) (fN rfl (T.nb "zip" (by decide)) (aA (pv 0) (aA (pv 2) aB))) (fun _ _ _ _ => (cG (K := K) (n := 2) rfl rfl (aW (aM (i := 0) (show (["first", "second", "divisor", "times", "other_times"] : List Str).Nodup by decide +kernel) rfl (Or.inl rfl)) (aW (aM (i := 1) (show (["first", "second", "divisor", "times", "other_times"] : List Str).Nodup by decide +kernel) rfl (Or.inl rfl)) cF)))) (fun _ _ _ _ => .nil) (fun _ _ _ _ => (aJ cA (aJ cB (aJ bK (pv 3) (pv 0)) (aJ bK (pv 4) (pv 1))) (pv 2)))))), ?_⟩
 refine ⟨_, rfl, _, rfl, false, false, a, b, rfl, ⟨_, hA⟩, ⟨_, hB⟩, fun D1 hD1 => ?_⟩
 refine jI (b1 := false) (b2 := false) (us := xs.map V.int) (vs := ys.map V.int) (fun _ i y => ∃ x z, xs[i]? = some x /\ ys[i]? = some z /\ y = .int ((t * x + u * z) / D)) (fun _ _ _ _ _ h => h) hA hB (by rw [List.length_map]; exact Nat.le_of_lt (aN hl)) hD1 ?_ ?_
 ·rintro i x y T0 H' R hx1 hy1 s1 hDn hT0 hq
  obtain ⟨x1, hx2, rfl⟩ := aS hx1
  obtain ⟨y1, hy2, rfl⟩ := aS hy1
  refine ⟨T0, _, rfl, SqT.of aC, rfl, _, _, rfl, _, _, rfl, rfl, wk23 rfl rfl rfl, ?_⟩
  refine ⟨_, rfl, _, rfl, _, _, rfl, rfl, ⟨2900, by decide, ht, hx x1 (List.mem_of_getElem? hx2)⟩, _, rfl, _, rfl, _, _, rfl, rfl, ⟨2900, by decide, hu, hy y1 (List.mem_of_getElem? hy2)⟩, _, _, rfl, rfl, _, rfl, _, _, rfl, rfl, ⟨hD0, hD9.mono (by decide)⟩, ?_⟩
  exact hq _ _ (Same.refl _) ⟨x1, y1, hx2, hy2, rfl⟩
 ·rintro zs H' s1 hL hzl hz
  refine q D1 H' s1 hD1 ?_
  rw [hL]
  congr 2
  refine zip_ys (f := fun x y => (t * x + u * y) / D) (by rw [hzl, List.length_map, List.length_map]) fun j y x z h1 h2 h3 => ?_
  obtain ⟨x', z', g1, g2, e⟩ := hz j y h1
  rw [h2] at g1
  rw [h3] at g2
  cases g1
  cases g2
  exact e
end
end Mw
namespace Mw
open PySem L2
section
variable {P : Program} {w : World} {K : PySem.W.Frag} {mg : Str -> Option Value} {base : Heap} {f : Addr} {fd : FuncData} {nf C ns : Addr} {C_Corral X_NoFraction X_NoSide X_MendError X_OneSide X_NoPoint X_NoRow X_NotParted X_NoTable X_NoText X_TooMany X_WrongBook : Addr}
theorem fV : FnScope ["tops", "aims", "first", "index"] ["tops", "aims"] (aG (top 29)) := ⟨rfl, rfl, rfl, by decide +kernel, rfl, by decide +kernel, by decide +kernel⟩
theorem ok_first_edge (F : Fun K "first_edge" "first_edge" (top 29) f fd) (T : Txt BN mg) : FnOk P w K mg base CX0 1 f fd ["tops", "aims"] (spFE K) := by
 refine F.ok fV (fun vs H Q E h => ?_) (fun cdv A outer s H vs Q E hr h => ?_)
 ·obtain ⟨t, m, ts, as, rfl, _⟩ := h
  rfl
 obtain ⟨t, m, ts, as, rfl, hT, hM, h0, h9, hl, hb1, hb2, q⟩ := h
 refine ⟨_, (aD (aP (i := 2) fV.nd rfl (Or.inl rfl) aE)
   (aD (cI PassesOwn.never rfl (pi_range2 rfl (T.nb "range" (by decide)) (aA aE (aA (aY (cZ (K := K) rfl) rfl (T.nb "len" (by decide)) (by decide +kernel) (aA (pv 0) aB)) aB))) (aM (i := 3) fV.nd rfl (Or.inl rfl)) (aH (b8 (bB oN (aJ bK (bC (bE (K := K) rfl) (pv 1) (pv 3) (fun _ _ => rfl)) (bC (bE (K := K) rfl) (pv 0) (pv 2) (fun _ _ => rfl))) (aJ bK (bC (bE (K := K) rfl) (pv 1) (pv 2) (fun _ _ => rfl)) (bC (bE (K := K) rfl) (pv 0) (pv 3) (fun _ _ => rfl))) (bA _)) (aH (aP (i := 2) fV.nd rfl (Or.inl rfl) (pv 3))) bJ)))
   (aH (aU (pv 2))))), ?_⟩
 have tb : ∀ i, i < ts.length -> Bits 1000000 (ts.getD i 0) /\ ts[i]? = some (ts.getD i 0) := fun i hi => by
  have e : ts.getD i 0 = ts[i] := by rw [List.getD_eq_getElem?_getD, List.getElem?_eq_getElem hi]; rfl
  rw [e]; exact ⟨hb1 _ (List.getElem_mem hi), List.getElem?_eq_getElem hi⟩
 have ab : ∀ i, i < ts.length -> Bits 1000000 (as.getD i 0) /\ as[i]? = some (as.getD i 0) := fun i hi => by
  have hi : i < as.length := by omega
  have e : as.getD i 0 = as[i] := by rw [List.getD_eq_getElem?_getD, List.getElem?_eq_getElem hi]; rfl
  rw [e]; exact ⟨hb2 _ (List.getElem_mem hi), List.getElem?_eq_getElem hi⟩
 have fle : ∀ n, fe ts as n <= n := fe_le ts as
 refine ⟨_, rfl, t, _, rfl, .inl hT, 1, _, rfl, ⟨by decide, by decide, by omega, by rw [List.length_map]; omega⟩, ?_⟩
 refine iF (lo := 1) (n := (((ts.map V.int).length : Int) - 1).toNat) (fun i σ H' => ∃ v3 : Option V, σ = [some (.ref t), some (.ref m), some (.int (fe ts as i : Nat)), v3] /\ H' = H) ⟨none, rfl, rfl⟩ ?_ ?_
 ·rintro i σ H' hi ⟨v3, rfl, rfl⟩
  rw [List.length_map] at hi
  have hi1 : i + 1 < ts.length := by omega
  have hf : fe ts as i < ts.length := by have := fle i; omega
  have e1 : (1 : Int) + (i : Int) = ((i + 1 : Nat) : Int) := by omega
  have a1 : atI (as.map V.int) (1 + (i : Int)) = some (.int (as.getD (i + 1) 0)) := by rw [e1]; exact bW (by rw [List.getElem?_map, (ab _ hi1).2]; rfl)
  have a2 : atI (ts.map V.int) ((fe ts as i : Nat) : Int) = some (.int (ts.getD (fe ts as i) 0)) := bW (by rw [List.getElem?_map, (tb _ hf).2]; rfl)
  have a3 : atI (as.map V.int) ((fe ts as i : Nat) : Int) = some (.int (as.getD (fe ts as i) 0)) := bW (by rw [List.getElem?_map, (ab _ hf).2]; rfl)
  have a4 : atI (ts.map V.int) (1 + (i : Int)) = some (.int (ts.getD (i + 1) 0)) := by rw [e1]; exact bW (by rw [List.getElem?_map, (tb _ hi1).2]; rfl)
  refine ⟨_, rfl, _, rfl, m, _, _, _, rfl, rfl, hM, a1, _, rfl, _, rfl, t, _, _, _, rfl, rfl, hT, a2, _, _, rfl, rfl, ⟨1000000, by decide, (ab _ hi1).1, (tb _ hf).1⟩, _, rfl, _, rfl, m, _, _, _, rfl, rfl, hM, a3, _, rfl, _, rfl, t, _, _, _, rfl, rfl, hT, a4, _, _, rfl, rfl, ⟨1000000, by decide, (ab _ hf).1, (tb _ hi1).1⟩, _, _, rfl, rfl, _, rfl, ?_⟩
  refine c9 (fun z => ?_) (fun z => ?_)
  ·refine ⟨_, rfl, some (.int (1 + (i : Int))), ?_, rfl⟩
   have : fe ts as (i + 1) = i + 1 := if_pos z
   rw [this, <- e1]; rfl
  ·refine ⟨some (.int (1 + (i : Int))), ?_, rfl⟩
   have : fe ts as (i + 1) = fe ts as i := if_neg z
   rw [this]; rfl
 ·rintro σ H' ⟨v3, rfl, rfl⟩
  have e : (((ts.map V.int).length : Int) - 1).toNat = ts.length - 1 := by rw [List.length_map]; omega
  rw [e]
  exact ⟨_, rfl, q⟩
end
end Mw
namespace Mw
open PySem L2
section
variable {P : Program} {w : World} {K : PySem.W.Frag} {mg : Str -> Option Value} {base : Heap} {f : Addr} {fd : FuncData} {nf C ns : Addr} {C_Corral X_NoFraction X_NoSide X_MendError X_OneSide X_NoPoint X_NoRow X_NotParted X_NoTable X_NoText X_TooMany X_WrongBook : Addr}
theorem kB : FnScope ["tops", "aims", "first"] ["tops", "aims"] (aG (top 30)) := ⟨rfl, rfl, rfl, by decide +kernel, rfl, by decide +kernel, by decide +kernel⟩
theorem ok_at_the_edge (F : Fun K "at_the_edge" "at_the_edge" (top 30) f fd) (T : Txt BN mg) (c_first_edge : Cal P w K mg base 1 "first_edge" ["tops", "aims"] (spFE K)) : FnOk P w K mg base CX0 2 f fd ["tops", "aims"] (spAE K) := by
 refine F.ok kB (fun vs H Q E h => ?_) (fun cdv A outer s H vs Q E hr h => ?_)
 ·obtain ⟨t, m, ts, as, rfl, _⟩ := h
  rfl
 obtain ⟨t, m, ts, as, rfl, hT, hM, h0, h9, hl, hb1, hb2, q⟩ := h
 refine ⟨_, (aD (aP (i := 2) kB.nd rfl (Or.inr rfl) (aR c_first_edge (hr.mono (by decide)) rfl (aA (pv 0) (aA (pv 1) aB))))
   (aH (aU (bQ (sc := aG (top 30)) (N := ["tops", "aims", "first"]) (NB := ["top", "aim", "tops", "first", "aims"]) (fr := [none, none, some 0, some 2, some 1]) rfl (by decide +kernel) (fN rfl (T.nb "zip" (by decide)) (aA (pv 0) (aA (pv 1) aB))) (fun _ _ _ _ => (cG (K := K) (n := 2) rfl rfl (aW (aM (i := 0) (show (["top", "aim", "tops", "first", "aims"] : List Str).Nodup by decide +kernel) rfl (Or.inl rfl)) (aW (aM (i := 1) (show (["top", "aim", "tops", "first", "aims"] : List Str).Nodup by decide +kernel) rfl (Or.inl rfl)) cF)))) (fun _ _ _ _ => .nil) (fun _ _ _ _ => (aJ fQ (aJ bK (bC (bE (K := K) rfl) (pv 2) (pv 3) (fun _ _ => rfl)) (pv 1)) (aJ bK (bC (bE (K := K) rfl) (pv 4) (pv 3) (fun _ _ => rfl)) (pv 0)))))))), ?_⟩
 refine ⟨_, rfl, _, rfl, t, m, ts, as, rfl, hT, hM, h0, h9, hl, hb1, hb2, ?_⟩
 have fle : ∀ n, fe ts as n <= n := fe_le ts as
 have hf : fe ts as (ts.length - 1) < ts.length := by have := fle (ts.length - 1); omega
 have hf2 : fe ts as (ts.length - 1) < as.length := by omega
 have et : ts[fe ts as (ts.length - 1)]? = some (ts.getD (fe ts as (ts.length - 1)) 0) := by rw [List.getD_eq_getElem?_getD, List.getElem?_eq_getElem hf]; rfl
 have ea : as[fe ts as (ts.length - 1)]? = some (as.getD (fe ts as (ts.length - 1)) 0) := by rw [List.getD_eq_getElem?_getD, List.getElem?_eq_getElem hf2]; rfl
 have a2 : atI (ts.map V.int) ((fe ts as (ts.length - 1) : Nat) : Int) = some (.int (ts.getD (fe ts as (ts.length - 1)) 0)) := bW (by rw [List.getElem?_map, et]; rfl)
 have a3 : atI (as.map V.int) ((fe ts as (ts.length - 1) : Nat) : Int) = some (.int (as.getD (fe ts as (ts.length - 1)) 0)) := bW (by rw [List.getElem?_map, ea]; rfl)
 refine ⟨_, rfl, _, rfl, false, false, t, m, rfl, ⟨_, hT⟩, ⟨_, hM⟩, fun D1 hD1 => ?_⟩
 refine jI (b1 := false) (b2 := false) (us := ts.map V.int) (vs := as.map V.int) (fun _ i y => ∃ x z, ts[i]? = some x /\ as[i]? = some z /\ y = .int (ts.getD (fe ts as (ts.length - 1)) 0 * z - as.getD (fe ts as (ts.length - 1)) 0 * x)) (fun _ _ _ _ _ h => h) hT hM (by rw [List.length_map]; exact Nat.le_of_lt (aN (by omega))) hD1 ?_ ?_
 ·rintro i x y T0 H' R hx1 hy1 s1 hDn hT0 hq
  obtain ⟨x1, hx2, rfl⟩ := aS hx1
  obtain ⟨y1, hy2, rfl⟩ := aS hy1
  have sT := s1.trans (Same.new hT0 (.tup [.int x1, .int y1]))
  refine ⟨T0, _, rfl, SqT.of aC, rfl, _, _, rfl, _, _, rfl, rfl, wk23 rfl rfl rfl, ?_⟩
  refine ⟨_, rfl, _, rfl, t, _, _, _, rfl, rfl, sT.seq hT, a2, _, rfl, _, _, rfl, rfl, ⟨1000000, by decide, hb1 _ (List.mem_of_getElem? et), hb2 _ (List.mem_of_getElem? hy2)⟩, _, rfl, _, rfl, m, _, _, _, rfl, rfl, sT.seq hM, a3, _, rfl, _, _, rfl, rfl, ⟨1000000, by decide, hb2 _ (List.mem_of_getElem? ea), hb1 _ (List.mem_of_getElem? hx2)⟩, _, _, rfl, rfl, ?_⟩
  exact hq _ _ (Same.refl _) ⟨x1, y1, hx2, hy2, rfl⟩
 ·rintro zs H' s1 hL hzl hz
  refine q D1 H' s1 hD1 ?_
  rw [hL]
  congr 2
  refine zip_ys (f := fun x z => ts.getD (fe ts as (ts.length - 1)) 0 * z - as.getD (fe ts as (ts.length - 1)) 0 * x) (by rw [hzl, List.length_map, List.length_map]) fun j y x z h1 h2 h3 => ?_
  obtain ⟨x', z', g1, g2, e⟩ := hz j y h1
  rw [h2] at g1
  rw [h3] at g2
  cases g1
  cases g2
  exact e
end
end Mw
namespace Mw
open PySem L2
section
variable {P : Program} {w : World} {K : PySem.W.Frag} {mg : Str -> Option Value} {base : Heap} {f : Addr} {fd : FuncData} {nf C ns : Addr} {C_Corral X_NoFraction X_NoSide X_MendError X_OneSide X_NoPoint X_NoRow X_NotParted X_NoTable X_NoText X_TooMany X_WrongBook : Addr}
theorem iP : FnScope ["corral", "tops", "aims"] ["corral", "tops"] (aG (top 31)) := ⟨rfl, rfl, rfl, by decide +kernel, rfl, by decide +kernel, by decide +kernel⟩
theorem ok_arrived (F : Fun K "arrived" "arrived" (top 31) f fd) (T : Txt BN mg) (m_flat_tops : MCal P w K mg base 1 (fun X => X = C) "flat_tops" ["self"] (mI C)) (m_drop_noughts : MCal P w K mg base 3 (fun X => X = C) "drop_noughts" ["self", "tops"] (mJ K C)) (c_at_the_edge : Cal P w K mg base 2 "at_the_edge" ["tops", "aims"] (spAE K)) : FnOk P w K mg base CX0 4 f fd ["corral", "tops"] (qA K C) := by
 refine F.ok iP (fun vs H Q E h => ?_) (fun cdv A outer s H vs Q E hr h => ?_)
 ·obtain ⟨a, va, t, as, vs, ps, ts, d, e, m, p, r, rfl, _⟩ := h
  rfl
 obtain ⟨a, va, t, as, vs, ps, ts, d, e, m, p, r, rfl, hC, hV, hPl, hO, hT, hb, hm, q⟩ := h
 refine ⟨_, (aD (aP (i := 2) iP.nd rfl (Or.inl rfl) (jR (pv 0) m_flat_tops (hr.mono (by decide)) cC))
   (aD (nE PassesOwn.never (bB op_le (aY (jY rfl) rfl (T.nb "min" (by decide)) (by decide +kernel) (aA (pv 2) aB)) aE (bA _)) (aD (aP (i := 1) iP.nd rfl (Or.inl rfl) (kP (pv 0) m_drop_noughts (hr.mono (by decide)) cC (aA (aR c_at_the_edge (hr.mono (by decide)) rfl (aA (pv 1) (aA (pv 2) aB))) aB)))
   (aH (aP (i := 2) iP.nd rfl (Or.inl rfl) (jR (pv 0) m_flat_tops (hr.mono (by decide)) cC)))))
   (aH (aU (pv 2))))), ?_⟩
 have hfew := hV.few
 obtain ⟨dx0, fs0, pa0, ia0, la0, eA0, F10, _, _, _⟩ := hC.ex
 have hk := b5 hPl hO.pos
 refine ⟨_, rfl, a, C, dx0, fs0, rfl, eA0, rfl, F10.no _ (by decide +kernel), ⟨_, _, eA0⟩, a, va, ps, _, _, rfl, hC, by rw [gX, bF]; omega, fun l0 H1 s1 hl0 hL0 => ?_⟩
 rw [aimL_flat] at hL0
 refine m5 (fun σ H' => ∃ (ps1 : List Nat) (ts1 : List Int) (t1 l1 : Addr) (m1 : Nat), σ = [some (.ref a), some (.ref t1), some (.ref l1)] /\ OffD a H H' /\ CRt C d H' a va vs ps1 /\ Pl vs ps1 /\ ArrOk d p r (aF vs ps1) ts1 /\ SqL K H' t1 (ts1.map V.int) /\ (∀ x ∈ ts1, Bits m1 x) /\ m1 + 2901 * ps1.length <= 900000 /\
   H' l1 = some (.lst ((aO d (aF vs ps1)).map V.int)) /\ ∀ ps', Arr d vs ps1 ts1 ps' -> Arr d vs ps ts ps')
  (fun σ H' => match σ with | [_, _, some (.ref l)] => lnAt H' l | _ => 0)
  ⟨ps, ts, t, l0, m, rfl, OffD.of s1, hC.same s1, hPl, hO, s1.seq hT, hb, hm, hL0, fun _ z => z⟩ ?_ (fun σ H Q Q' mo h => ?_)
 ·rintro σ H2 ⟨ps1, ts1, t1, l1, m1, rfl, o2, hC2, hPl2, hO2, hT2, hb2, hm2, hL2, hA2⟩
  have hk2 := b5 hPl2 hO2.pos
  have hal : (aO d (aF vs ps1)).length = ps1.length := by rw [dQ, bF]
  have hp1 : 0 < ps1.length := by have := hO2.ne; rw [bF] at this; exact this
  have htl : ts1.length = ps1.length := by rw [hO2.len, bF]
  have hV2 := hV.off o2 eA0
  have hab := hV2.aim hPl2 hO2.pos
  refine ⟨_, rfl, l1, _, rfl, SqL.of hL2, by omega, fun mn h1 h2 => ⟨_, _, rfl, rfl, _, rfl, ?_⟩⟩
  refine c9 (fun z => ?_) (fun z => ?_)
  ·have z1 : mn <= 0 := z
   have hn : ¬ ∀ x ∈ aO d (aF vs ps1), 0 < x := fun w => by have := w mn h1; omega
   obtain ⟨hO3, hlt⟩ := hO2.step hn
   obtain ⟨dx, fs, pa, ia, la, eA, F1, _, _, _⟩ := hC2.ex
   have hel : (cM ts1 (aO d (aF vs ps1))).length = ps1.length := by rw [qR (by omega), htl]
   refine ⟨_, rfl, a, C, dx, fs, rfl, eA, rfl, F1.no _ (by decide +kernel), _, rfl, _, rfl, t1, l1, ts1, aO d (aF vs ps1), rfl, hT2, SqL.of hL2, by omega, by omega, by omega, fun x hx => (hb2 x hx).mono (by omega), fun x hx => (hab x hx).mono (by decide), fun r1 H3 s3 hr1 hR1 => ?_⟩
   refine ⟨⟨_, _, s3 _ _ eA⟩, a, va, r1, as, vs, ps1, cM ts1 (aO d (aF vs ps1)), d, e, rfl, hC2.same s3, hV2.same s3, hPl2, hO2.pos, SqL.of hR1, hel, fun r2 H4 o4 hC4 hR4 => ?_⟩
   have hkp : aF vs (kept ps1 (cM ts1 (aO d (aF vs ps1)))) = kept (aF vs ps1) (cM ts1 (aO d (aF vs ps1))) := (nL _ _ _).symm
   have hPl4 := hPl2.kept (cM ts1 (aO d (aF vs ps1)))
   have hbe : ∀ x ∈ (cM ts1 (aO d (aF vs ps1))).filter (· ≠ 0), Bits (m1 + 2901) x := fun x hx => by
    have hx := (List.mem_filter.mp hx).1
    obtain ⟨i, hi⟩ := List.getElem?_of_mem hx
    have hil := (List.getElem?_eq_some_iff.mp hi).1
    have ei : (cM ts1 (aO d (aF vs ps1))).getD i 0 = x := by rw [List.getD_eq_getElem?_getD, hi]; rfl
    rw [<- ei, qS (by omega) (by omega)]
    have hf := fe_le ts1 (aO d (aF vs ps1)) (ts1.length - 1)
    have g1 : ∀ k, k < ts1.length -> Bits m1 (ts1.getD k 0) := fun k hk => hb2 _ (by rw [List.getD_eq_getElem?_getD, List.getElem?_eq_getElem hk]; exact List.getElem_mem hk)
    have g2 : ∀ k, k < ts1.length -> Bits 2900 ((aO d (aF vs ps1)).getD k 0) := fun k hk => hab _ (by rw [List.getD_eq_getElem?_getD, List.getElem?_eq_getElem (show k < (aO d (aF vs ps1)).length by omega)]; exact List.getElem_mem _)
    exact ((g1 _ (by omega)).mul (g2 i (by omega))).sub (((g2 _ (by omega)).mul (g1 i (by omega))).mono (by omega))
   generalize hes : cM ts1 (aO d (aF vs ps1)) = es at *
   obtain ⟨dx4, fs4, pa4, ia4, la4, eA4, F14, _, _, _⟩ := hC4.ex
   have hkl : (kept ps1 es).length < ps1.length := by
    have := hlt
    rw [<- hkp, bF, bF] at this; exact this
   refine ⟨_, rfl, a, C, dx4, fs4, rfl, eA4, rfl, F14.no _ (by decide +kernel), ⟨_, _, eA4⟩, a, va, kept ps1 es, _, _, rfl, hC4, by rw [gX, bF]; omega, fun l5 H5 s5 hl5 hL5 => ?_⟩
   rw [aimL_flat] at hL5
   refine ⟨⟨kept ps1 es, es.filter (· ≠ 0), r2, l5, m1 + 2901, rfl, (o2.trans (OffD.of s3)).trans (o4.trans (OffD.of s5)), hC4.same s5, hPl4, by rw [hkp]; exact hO3, SqL.of (s5 _ _ hR4), hbe, by omega, hL5, fun ps' z => hA2 ps' ?_⟩, ?_⟩
   ·refine Arr.on hn ?_
    rw [hes]; exact z
   ·show lnAt H5 l5 < lnAt H2 l1
    rw [lnAt_of hL5, lnAt_of hL2, List.length_map, List.length_map, dQ, dQ, bF, bF]
    exact hkl
  ·have z1 : ¬ mn <= 0 := z
   have hall : ∀ x ∈ aO d (aF vs ps1), 0 < x := fun x hx => by have := h2 x hx; omega
   obtain ⟨g1, g2⟩ := hO2.done hall
   exact ⟨_, rfl, q l1 ps1 H2 o2 hC2 hPl2 hL2 g1 g2 (hA2 ps1 (.here hall))⟩
 ·obtain ⟨v, e1, b, ns, e2, hs, h0, hk⟩ := h
  exact ⟨v, e1, b, ns, e2, hs, h0, fun mn y1 y2 => by obtain ⟨i, j, e3, e4, k, e5, qq⟩ := hk mn y1 y2; exact ⟨i, j, e3, e4, k, e5, mo _ _ qq⟩⟩
end
end Mw
namespace Mw
open PySem L2
section
variable {P : Program} {w : World} {K : PySem.W.Frag} {mg : Str -> Option Value} {base : Heap} {f : Addr} {fd : FuncData} {nf C ns : Addr} {C_Corral X_NoFraction X_NoSide X_MendError X_OneSide X_NoPoint X_NoRow X_NotParted X_NoTable X_NoText X_TooMany X_WrongBook : Addr}
theorem iC : FnScope ["corral", "tops", "spot", "products", "least"] ["corral", "tops"] (aG (top 32)) := ⟨rfl, rfl, rfl, by decide +kernel, rfl, by decide +kernel, by decide +kernel⟩
theorem ok_search (F : Fun K "search" "search" (top 32) f fd) (T : Txt BN mg) (CT : CTx K C) (c_mixed : Cal P w K mg base 1 "mixed" ["vectors", "tops"] (spMixW K)) (m_chosen : MCal P w K mg base 1 (fun X => X = C) "chosen" ["self"] (i6 K C)) (c_product : Cal P w K mg base 1 "product" ["one", "other"] (iX K)) (m_take : MCal P w K mg base 3 (fun X => X = C) "take" ["self", "place"] (lF K C)) (c_arrived : Cal P w K mg base 4 "arrived" ["corral", "tops"] (qA K C)) : FnOk P w K mg base CX0 5 f fd ["corral", "tops"] (spSearch K C) := by
 refine F.ok iC (fun vs H Q E h => ?_) (fun cdv A outer s H vs Q E hr h => ?_)
 ·obtain ⟨a, va, t, as, vs, ps, d, e, rfl, _⟩ := h
  rfl
 obtain ⟨a, va, t, as, vs, ps, d, e, rfl, hC, hV, hPl, hG, hT, q⟩ := h
 refine ⟨_, (aH (nE PassesOwn.never (fL pe_bl) (aD (aP (i := 2) iC.nd rfl (Or.inr rfl) (aR c_mixed (hr.mono (by decide)) rfl (aA (jR (pv 0) m_chosen (hr.mono (by decide)) cC) (aA (pv 1) aB))))
   (aD (dU (i := 3) iC.nd rfl rfl (sc := aG (top 32)) (N := ["corral", "tops", "spot", "products", "least"]) (NB := ["vector", "spot"]) (fr := [none, some 2]) rfl (by decide +kernel) (bD (cS (pv 0) rfl)) (fun _ _ _ _ => (aM (i := 0) (show (["vector", "spot"] : List Str).Nodup by decide +kernel) rfl (Or.inl rfl))) (fun _ _ _ _ => .nil) (fun _ _ _ _ => (aR c_product (hr.mono (by decide)) rfl (aA (pv 1) (aA (pv 0) aB)))))
   (aD (aP (i := 4) iC.nd rfl (Or.inl rfl) (aY (jY rfl) rfl (T.nb "min" (by decide)) (by decide +kernel) (aA (pv 3) aB)))
   (aD (b8 (bB dH (pv 4) (bC (bE (K := K) rfl) (pv 3) (bC (bE (K := K) rfl) (cS (pv 0) rfl) aE (fun _ _ => rfl)) (fun _ _ => rfl)) (bA _)) (aH (aU (pv 1))) bJ)
   (aD (cE (kP (pv 0) m_take (hr.mono (by decide)) cC (aA (fI PySem.F.plainAttrs_list PySem.F.slot_list_index PySem.F.type_list_index mt_index (pv 3) (aA (pv 4) aB)) aB)))
   (aH (aP (i := 1) iC.nd rfl (Or.inl rfl) (aR c_arrived (hr.mono (by decide)) rfl (aA (pv 0) (aA (aJ fB (pv 1) (bO (aA aE aB))) aB)))))))))))), ?_⟩
 have hfew := hV.few
 have hdd := hV.dd
 have hal := hV.len
 obtain ⟨dx0, fs0, pa0, ia0, la0, eA0, F10, _, _, _⟩ := hC.ex
 refine m5 (fun σ H' => ∃ (ps1 : List Nat) (t1 : Addr) (v2 v3 v4 : Option V), σ = [some (.ref a), some (.ref t1), v2, v3, v4] /\ OffD a H H' /\ CRt C d H' a va vs ps1 /\ Pl vs ps1 /\ Good d (aF vs ps1) /\ H' t1 = some (.lst ((aO d (aF vs ps1)).map V.int)) /\ ∀ ps', Srch d vs ps1 ps' -> Srch d vs ps ps')
  (fun σ H' => far d ((2 ^ 2900 : Nat) : Int) (aF vs (psAt H' a)))
  ⟨ps, t, none, none, none, rfl, OffD.refl, hC, hPl, hG, hT, fun _ z => z⟩ ?_ (fun σ H Q Q' mo h => ?_)
 ·rintro σ H1 ⟨ps1, t1, v2, v3, v4, rfl, o1, hC1, hPl1, hG1, hT1, hS1⟩
  have hk1 := b5 hPl1 hG1.pos
  have hV1 := hV.off o1 eA0
  have hp1 : 0 < ps1.length := by have := hG1.ne; rw [bF] at this; exact this
  have hab := hV1.aim hPl1 hG1.pos
  obtain ⟨dx, fs, pa, ia, la, eA, F1, h1, h2, h3⟩ := hC1.ex
  refine ⟨_, rfl, iI ?_⟩
  refine ⟨_, rfl, a, C, dx, fs, rfl, eA, rfl, F1.no _ (by decide +kernel), ⟨_, _, eA⟩, a, va, ps1, _, _, as, rfl, hC1, hV1.lst, fun p hp => by have := hPl1 p hp; omega, by omega, fun r0 H2 s2 hr0 hR0 => ?_⟩
  refine ⟨_, rfl, r0, t1, ps1.map (fun p => as.getD p 0), aF vs ps1, aO d (aF vs ps1), d, rfl, SqL.of hR0, (hV1.picks hPl1).same s2, fun z => by rw [z] at hG1; exact absurd hG1.ne (by decide), hG1.dim, SqL.of (s2 _ _ hT1), by rw [dQ], by rw [bF]; omega, by omega, fun v hv x hx => (hV1.vbits (jB hPl1 hv) hx).mono (by decide), fun x hx => (hab x hx).mono (by decide), fun r1 H3 S s3 hr1 hR1 hSp => ?_⟩
  have s13 := s2.trans s3
  have hSl : S.length = d := hSp.1
  -- the products
  have hSb : ∀ x ∈ S, Bits 9000 x := spot_bits hSp (dQ d (aF vs ps1)) hab (fun v hv x hx => hV1.vbits (jB hPl1 hv) hx) (by rw [bF]; omega)
  refine ⟨_, rfl, a, C, dx, fs, _, rfl, s13 _ _ eA, CT.cl, CT.vectors, F1.vectors, va, rfl, ⟨_, s13.seq hV1.lst⟩, fun D1 hD1 => ?_⟩
  refine aZ (xs := as.map V.ref) (fun _ i y => ∃ v, vs[i]? = some v /\ y = .int (dot S v)) (fun _ _ _ _ _ h => h) (s13.seq hV1.lst) (by rw [List.length_map]; exact Nat.le_of_lt (aN (by omega))) hD1 ?_ ?_
  ·rintro i x H' R hx s4 hDn hR
   obtain ⟨A, hA1, rfl⟩ := aS hx
   obtain ⟨v, hv, hvT⟩ := paired_get hV1.pts hA1
   have hvm := List.mem_of_getElem? hv
   refine ⟨wk1 rfl, ?_⟩
   exact ⟨_, rfl, _, rfl, r1, A, false, true, S, v, rfl, SqL.of (s4 _ _ hR1), (s13.trans s4).seqT hvT, by omega, hSb, fun x hx => (hV1.vbits hvm hx).mono (by decide), fun H5 s5 => hR _ _ s5 ⟨v, hv, rfl⟩⟩
  rintro ys H4 s4 hL1 hyl hy
  have ey : ys = (dN vs S).map V.int := by
   unfold dN
   rw [List.map_map]
   refine dG (by rw [hyl, List.length_map, hal]) fun i y r hi hr => ?_
   obtain ⟨x, g1, g2⟩ := hy i y hi
   rw [hr] at g1
   cases g1
   exact g2
  subst ey
  clear hy hyl
  have hprl : (dN vs S).length = vs.length := by unfold dN; rw [List.length_map]
  have hvn : 0 < vs.length := List.length_pos_iff.mpr hV.ne
  have s14 := s13.trans s4
  refine ⟨_, rfl, D1, _, rfl, SqL.of hL1, by omega, fun mn m1 m2 => ?_⟩
  -- the corral's own
  obtain ⟨p0, hp0⟩ : ∃ p0, ps1[0]? = some p0 := ⟨_, List.getElem?_eq_getElem hp1⟩
  have hp0l := hPl1 p0 (List.mem_of_getElem? hp0)
  have ep0 : ps1.getD 0 0 = p0 := by rw [List.getD_eq_getElem?_getD, hp0]; rfl
  have hpr : ∀ k, k < vs.length -> (dN vs S)[k]? = some (dot S (vs.getD k [])) := fun k hk => by
   unfold dN
   rw [List.getElem?_map, List.getD_eq_getElem?_getD, List.getElem?_eq_getElem hk]; rfl
  have hown := hG1.own hSp (i := 0) hG1.ne
  rw [jC hp1, ep0] at hown
  have hgd : (dN vs S).getD (ps1.getD 0 0) 0 = cD d (aF vs ps1) - cT d (aF vs ps1) := by
   rw [ep0, List.getD_eq_getElem?_getD, hpr p0 hp0l, <- hown]; rfl
  have at0 : atI (numsV ps1) 0 = some (.int (p0 : Int)) := bW (j := 0) (by rw [List.getElem?_map, hp0]; rfl)
  have at1 : atI ((dN vs S).map V.int) (p0 : Int) = some (.int (cD d (aF vs ps1) - cT d (aF vs ps1))) := bW (by rw [List.getElem?_map, hpr p0 hp0l, hown]; rfl)
  refine ⟨_, rfl, _, rfl, _, rfl, a, C, dx, fs, _, rfl, s14 _ _ eA, CT.cl, CT.places, F1.places, pa, _, _, _, rfl, rfl, SqL.of (s14 _ _ h1), at0, D1, _, _, _, rfl, rfl, SqL.of hL1, at1, rfl, _, rfl, ?_⟩
  refine c9 (fun z => ?_) (fun z => ?_)
  ·have z1 : mn = cD d (aF vs ps1) - cT d (aF vs ps1) := by have : V.int mn = V.int (cD d (aF vs ps1) - cT d (aF vs ps1)) := z; injection this
   refine ⟨_, rfl, q t1 ps1 H4 (o1.trans (OffD.of s14)) (hC1.same s14) (s14 _ _ hT1) ⟨hG1, hPl1, fun S' hS' v hv => ?_⟩ (hS1 ps1 (.stop hSp ⟨m1, m2⟩ (by rw [hgd]; exact z1)))⟩
   obtain rfl := hSp.one hS'
   rw [<- z1]
   exact m2 _ (List.mem_map.mpr ⟨v, hv, rfl⟩)
  ·have z1 : mn ≠ cD d (aF vs ps1) - cT d (aF vs ps1) := fun y => z (by show V.int mn = V.int (cD d (aF vs ps1) - cT d (aF vs ps1)); rw [y])
   have hlt : mn < cD d (aF vs ps1) - cT d (aF vs ps1) := by
    have := m2 _ (List.mem_of_getElem? (hpr p0 hp0l))
    rw [hown] at this
    omega
   obtain ⟨ix, eix⟩ : ∃ ix, ix = (dN vs S).idxOf mn := ⟨_, rfl⟩
   have hix : ix < vs.length := by rw [eix, <- hprl]; exact List.idxOf_lt_length_of_mem m1
   have hixv : dot S (vs.getD ix []) = mn := by
    have e1 := hpr ix hix
    have hi2 : ix < (dN vs S).length := by omega
    rw [List.getElem?_eq_getElem hi2] at e1
    have e2 := Option.some.inj e1
    rw [<- e2]
    subst eix
    exact List.getElem_idxOf hi2
   obtain ⟨hvm, _, _⟩ := hV1.get hix
   obtain ⟨hD', hO'⟩ := hG1.take hSp (hV1.dim _ hvm) (by rw [hixv]; exact hlt)
   have happ := pick_app vs ps1 ix
   rw [<- happ] at hD' hO'
   refine ⟨_, rfl, a, C, dx, fs, rfl, s14 _ _ eA, rfl, F1.no _ (by decide +kernel), _, rfl, .inl ⟨rfl, _, SqL.of hL1⟩, _, rfl, D1, _, _, rfl, rfl, hL1, m1, by omega, ⟨_, _, s14 _ _ eA⟩, a, va, as, vs, ps1, d, e, ix, by rw [eix], hC1.same s14, hV1.same s14, hPl1, hix, hG1.pos, hD', fun H5 o5 hC5 => ?_⟩
   have eA4 := s14 _ _ eA
   have hT5 := o5.lst eA4 (s14 _ _ hT1)
   refine ⟨_, rfl, _, rfl, (by show 1 <= sizeLine; decide), fun p6 hp6 => ?_⟩
   have t6 := Same.new hp6 (.lst [.int 0])
   refine ⟨t1, p6, _, _, rfl, rfl, t6 _ _ hT5, aC, ?_, fun np hnp => ?_⟩
   ·rw [List.length_map, dQ, bF]
    exact Nat.le_of_lt (aN (by show ps1.length + 1 <= 1000; omega))
   have enp : (aO d (aF vs ps1)).map V.int ++ [V.int 0] = (aO d (aF vs ps1) ++ [0]).map V.int := by rw [List.map_append]; rfl
   rw [enp]
   have t7 := t6.trans (Same.new hnp (.lst ((aO d (aF vs ps1) ++ [0]).map V.int)))
   have hNp : upd (upd H5 p6 (.lst [.int 0])) np (.lst ((aO d (aF vs ps1) ++ [0]).map V.int)) np = some (.lst ((aO d (aF vs ps1) ++ [0]).map V.int)) := aC
   generalize upd (upd H5 p6 (.lst [.int 0])) np (.lst ((aO d (aF vs ps1) ++ [0]).map V.int)) = H7 at *
   have oA := (o1.trans (OffD.of s14)).trans (o5.trans (OffD.of t7))
   refine ⟨a, va, np, as, vs, ps1 ++ [ix], aO d (aF vs ps1) ++ [0], d, e, 2900, cD d (aF vs ps1), cT d (aF vs ps1), rfl, hC5.same t7, hV.off oA eA0, hPl1.app hix, hO', SqL.of hNp, fun x hx => ?_, by rw [List.length_append]; show 2900 + 2901 * (ps1.length + 1) <= 900000; omega, fun l8 ps8 H8 o8 hC8 hPl8 hL8 hG8 hlt8 hA8 => ?_⟩
   ·rcases List.mem_append.mp hx with y | y
    ·exact hab x y
    ·rw [List.mem_singleton.mp y]; exact Nat.two_pow_pos _
   refine ⟨⟨ps8, l8, _, _, _, rfl, oA.trans o8, hC8, hPl8, hG8, hL8, fun ps' y => hS1 ps' (.on hSp ⟨m1, m2⟩ (by rw [hgd]; exact z1) (by rw [<- eix]; exact hA8) y)⟩, ?_⟩
   rw [psAt_of hC8, psAt_of hC1]
   refine far_lt hG1 hG8 ?_ ?_ hlt8
   ·have := hV1.tot hPl1 hG1.pos
    have : (cT d (aF vs ps1)).natAbs < 2 ^ 2900 := this
    omega
   ·have := hV1.tot hPl8 hG8.pos
    have : (cT d (aF vs ps8)).natAbs < 2 ^ 2900 := this
    omega
 ·obtain ⟨b, e1, qq⟩ := h
  exact ⟨b, e1, mo _ _ qq⟩
end
end Mw
namespace Mw
open PySem L2
section
variable {P : Program} {w : World} {K : PySem.W.Frag} {mg : Str -> Option Value} {base : Heap} {f : Addr} {fd : FuncData} {nf C ns : Addr} {C_Corral X_NoFraction X_NoSide X_MendError X_OneSide X_NoPoint X_NoRow X_NotParted X_NoTable X_NoText X_TooMany X_WrongBook : Addr}
theorem bX : FnScope ["vectors", "squares", "corral", "tops", "total", "shares", "place", "top"] ["vectors"] (aG (top 33)) := ⟨rfl, rfl, rfl, by decide +kernel, rfl, by decide +kernel, by decide +kernel⟩
theorem ok_nearest_shares (F : Fun K "nearest_shares" "nearest_shares" (top 33) f fd) (T : Txt BN mg) (CT : CTx K C) (c_square : Cal P w K mg base 2 "square" ["one"] (jN K)) (n_Corral : NCal P w K mg base 1 "Corral" ["self", "vectors"] (kL C)) (m_take : MCal P w K mg base 3 (fun X => X = C) "take" ["self", "place"] (lF K C)) (c_search : Cal P w K mg base 5 "search" ["corral", "tops"] (spSearch K C)) (c_part : CalX P w K mg base 2 "part" ["top", "bottom"] (j9 nf)) : FnOk P w K mg base CX0 6 f fd ["vectors"] (spNear K) := by
 refine F.ok bX (fun vs H Q E h => ?_) (fun cdv A outer s H vs Q E hr h => ?_)
 ·obtain ⟨va, as, vs, d, e, rfl, _⟩ := h
  rfl
 obtain ⟨va, as, vs, d, e, rfl, hV, q⟩ := h
 refine ⟨_, (aD (dU (i := 1) bX.nd rfl rfl (sc := aG (top 33)) (N := ["vectors", "squares", "corral", "tops", "total", "shares", "place", "top"]) (NB := ["vector"]) (fr := [none]) rfl (by decide +kernel) (bD (pv 0)) (fun _ _ _ _ => (aM (i := 0) (show (["vector"] : List Str).Nodup by decide +kernel) rfl (Or.inl rfl))) (fun _ _ _ _ => .nil) (fun _ _ _ _ => (aR c_square (hr.mono (by decide)) rfl (aA (pv 0) aB))))
   (aD (aP (i := 2) bX.nd rfl (Or.inl rfl) (pe_newG n_Corral (hr.mono (by decide)) rfl cC (aA (pv 0) aB)))
   (aD (cE (kP (pv 2) m_take (hr.mono (by decide)) cC (aA (fI PySem.F.plainAttrs_list PySem.F.slot_list_index PySem.F.type_list_index mt_index (pv 1) (aA (aY (jY rfl) rfl (T.nb "min" (by decide)) (by decide +kernel) (aA (pv 1) aB)) aB)) aB)))
   (aD (aP (i := 3) bX.nd rfl (Or.inl rfl) (aR c_search (hr.mono (by decide)) rfl (aA (pv 2) (aA (bO (aA aE aB)) aB))))
   (aD (aP (i := 4) bX.nd rfl (Or.inl rfl) (aY (mB rfl) rfl (T.nb "sum" (by decide)) (by decide +kernel) (aA (pv 3) aB)))
   (aD (aP (i := 5) bX.nd rfl (Or.inl rfl) (aJ lR (bO (aA (eC (aA aE (aA aE aB))) aB)) (aY (cZ (K := K) rfl) rfl (T.nb "len" (by decide)) (by decide +kernel) (aA (pv 0) aB))))
   (aD (cI PassesOwn.never rfl (fN rfl (T.nb "zip" (by decide)) (aA (cS (pv 2) rfl) (aA (pv 3) aB))) (cG (K := K) (n := 2) rfl rfl (aW (aM (i := 6) bX.nd rfl (Or.inl rfl)) (aW (aM (i := 7) bX.nd rfl (Or.inl rfl)) cF))) (aH (ps_asg (b6 c_part (hr.mono (by decide)) rfl cC (aA (pv 7) (aA (pv 4) aB))) (pg_sub (pv 5) (pv 6) set_list))))
   (aH (aU (pv 5)))))))))), ?_⟩
 have hfew := hV.few
 have hdd := hV.dd
 have hal := hV.len
 have hvn : 0 < vs.length := List.length_pos_iff.mpr hV.ne
 refine ⟨_, rfl, va, rfl, ⟨_, hV.lst⟩, fun D1 hD1 => ?_⟩
 refine aZ (xs := as.map V.ref) (fun _ i y => ∃ v, vs[i]? = some v /\ y = .int (dot v v)) (fun _ _ _ _ _ h => h) hV.lst (by rw [List.length_map]; exact Nat.le_of_lt (aN (by omega))) hD1 ?_ ?_
 ·rintro i x H' R hx s4 hDn hR
  obtain ⟨A, hA1, rfl⟩ := aS hx
  obtain ⟨v, hv, hvT⟩ := paired_get hV.pts hA1
  have hvm := List.mem_of_getElem? hv
  refine ⟨c6 (n := 1) rfl, ?_⟩
  exact ⟨_, rfl, A, true, v, rfl, s4.seqT hvT, by rw [hV.dim v hvm]; omega, fun x hx => (hV.vbits hvm hx).mono (by decide), fun H5 s5 => hR _ _ s5 ⟨v, hv, rfl⟩⟩
 rintro ys H1 s1 hL1 hyl hy
 have ey : ys = (vs.map fun v => dot v v).map V.int := by
  rw [List.map_map]
  refine dG (by rw [hyl, List.length_map, hal]) fun i y r hi hr => ?_
  obtain ⟨x, g1, g2⟩ := hy i y hi
  rw [hr] at g1
  cases g1
  exact g2
 subst ey
 clear hy hyl
 refine ⟨_, rfl, va, rfl, fun a H2 s2 ha hC2 => ?_⟩
 have s12 := s1.trans s2
 have ha0 : H a = none := s1.free ha
 obtain ⟨dx, fs, pa, ia, la, eA, F1, _, _, _⟩ := hC2.ex
 have hL2 := s2 _ _ hL1
 refine ⟨_, rfl, a, C, dx, fs, rfl, eA, rfl, F1.no _ (by decide +kernel), _, rfl, .inl ⟨rfl, _, SqL.of hL2⟩, _, rfl, D1, _, rfl, SqL.of hL2, by rw [List.length_map]; exact hvn, fun mn m1 m2 => ?_⟩
 obtain ⟨ix, eix⟩ : ∃ ix, ix = (vs.map fun v => dot v v).idxOf mn := ⟨_, rfl⟩
 have hix : ix < vs.length := by
  have := List.idxOf_lt_length_of_mem m1
  rw [List.length_map] at this
  rw [eix]; exact this
 obtain ⟨hvm, _, _⟩ := hV.get hix
 have hG := one_good (hV.dim _ hvm)
 have hPl : Pl vs [ix] := fun p hp => by rw [List.mem_singleton.mp hp]; exact hix
 have epk : aF vs [ix] = [vs.getD ix []] := rfl
 have hV2 := hV.same s12
 refine ⟨D1, _, _, rfl, rfl, hL2, m1, by rw [List.length_map]; omega, ⟨_, _, eA⟩, a, va, as, vs, [], d, e, ix, by rw [eix], hC2, hV2, fun p hp => by simp at hp, hix, (by show (0 : Int) < 1; decide), by show 0 < cD d (aF vs [ix]); rw [epk]; exact hG.pos, fun H3 o3 hC3 => ?_⟩
 refine ⟨_, rfl, (by show 1 <= sizeLine; decide), fun p4 hp4 => ?_⟩
 have t4 := Same.new hp4 (.lst [.int 1])
 obtain ⟨dx3, fs3, pa3, ia3, la3, eA3, _⟩ := hC3.ex
 have o4 : OffD a H2 (upd H3 p4 (.lst [.int 1])) := o3.trans (OffD.of t4)
 refine ⟨a, va, p4, as, vs, [ix], d, e, rfl, hC3.same t4, hV2.off o4 eA, hPl, by rw [epk]; exact hG, by rw [epk, (one_aim (hV.dim _ hvm)).2.2]; exact aC, fun l ps H5 o5 hC5 hL5 hLast hSr => ?_⟩
 have o25 := o4.trans o5
 have hS5 : Same H H5 := o25.same s12 ha0
 have hV5 := hV.same hS5
 have hPl5 : Pl vs ps := hLast.below
 have hk := b5 hPl5 hLast.good.pos
 have hab := hV.aim hPl5 hLast.good.pos
 have htb := hV.tot hPl5 hLast.good.pos
 have htp := hLast.good.tpos
 have hal5 : (aO d (aF vs ps)).length = ps.length := by rw [dQ, bF]
 refine ⟨_, rfl, l, _, rfl, SqL.of hL5, ?_⟩
 refine ⟨(by show 2 <= sizeLine; decide), fun p6 hp6 => ⟨(by show 1 <= sizeLine; decide), fun p7 hp7 => ?_⟩⟩
 have t6 := Same.new hp6 (.tup [.int 0, .int 1])
 have hP6 : upd H5 p6 (.tup [.int 0, .int 1]) p6 = some (.tup [.int 0, .int 1]) := aC
 generalize upd H5 p6 (.tup [.int 0, .int 1]) = H6 at *
 have t7 := Same.new hp7 (.lst [.ref p6])
 have hP7 : upd H6 p7 (.lst [.ref p6]) p7 = some (.lst [.ref p6]) := aC
 have hP6' := t7 _ _ hP6
 have s57 := t6.trans t7
 generalize upd H6 p7 (.lst [.ref p6]) = H7 at *
 refine ⟨_, rfl, va, _, rfl, .inl (s57.seq hV5.lst), p7, _, _, rfl, rfl, hP7, by omega, by rw [List.length_map]; omega, ?_, fun sh hsh => ?_⟩
 ·rw [List.length_map, hal, Int.toNat_natCast]
  exact Nat.le_of_lt (aN (by show 1 * vs.length <= 1000; omega))
 have eR : (List.replicate (((as.map V.ref).length : Int)).toNat [V.ref p6]).flatten = (List.replicate vs.length p6).map V.ref := by
  rw [List.length_map, hal, Int.toNat_natCast]; simp
 rw [eR]
 have hsh0 : H sh = none := hS5.free (s57.free hsh)
 have t8 := Same.new hsh (.lst ((List.replicate vs.length p6).map V.ref))
 have hSh : upd H7 sh (.lst ((List.replicate vs.length p6).map V.ref)) sh = some (.lst ((List.replicate vs.length p6).map V.ref)) := aC
 have hP8 := t8 _ _ hP6'
 have s58 := s57.trans t8
 generalize upd H7 sh (.lst ((List.replicate vs.length p6).map V.ref)) = H8 at *
 have hC8 := hC5.same s58
 have hL8 := s58 _ _ hL5
 have hlsh : l ≠ sh := fun z => by rw [<- z] at hsh; have := s57 _ _ hL5; rw [hsh] at this; cases this
 obtain ⟨dx8, fs8, pa8, ia8, la8, eA8, F18, h18, _, _⟩ := hC8.ex
 have hpash : pa8 ≠ sh := fun z => by
  obtain ⟨dx9, fs9, pa9, ia9, la9, eA9, F19, h19, _, _⟩ := hC5.ex
  have e1 : pa9 = pa8 := by
   have := s58 _ _ eA9
   rw [eA8] at this
   cases this
   have := F18.places
   rw [F19.places] at this
   cases this
   rfl
  rw [e1, z] at h19
  have := s57 _ _ h19
  rw [hsh] at this
  cases this
 refine ⟨_, rfl, a, C, dx8, fs8, _, rfl, eA8, CT.cl, CT.places, F18.places, _, rfl, false, false, pa8, l, rfl, ⟨_, SqL.of h18⟩, ⟨_, SqL.of hL8⟩, ?_⟩
 refine kF (b1 := false) (b2 := false) (xs := numsV ps) (ys := (aO d (aF vs ps)).map V.int) (fun i σ H' => ∃ (v6 v7 : Option V) (ss : List Addr), σ = [some (.ref va), some (.ref D1), some (.ref a), some (.ref l), some (.int (cT d (aF vs ps))), some (.ref sh), v6, v7] /\ Same H H' /\ H' pa8 = some (.lst (numsV ps)) /\ H' l = some (.lst ((aO d (aF vs ps)).map V.int)) /\ H' sh = some (.lst (ss.map V.ref)) /\
   TupsAt H' ss (d9 vs.length (cT d (aF vs ps)) ((ps.zip (aO d (aF vs ps))).take i)))
  ⟨none, none, List.replicate vs.length p6, rfl, hS5.trans s58, h18, hL8, hSh, tups_rep hP8⟩
  (fun i σ H' _ ⟨_, _, _, _, _, g1, g2, _⟩ => ⟨SqL.of g1, SqL.of g2⟩) ?_ ?_
 ·rintro i x y T0 σ H' hx hy hT0 ⟨v6, v7, ss, rfl, s9, h9, hL9, hS9, hM9⟩
  obtain ⟨pl, hp1, rfl⟩ := aS (g := fun n : Nat => V.int (n : Int)) hx
  obtain ⟨t, ht1, rfl⟩ := aS hy
  have hpl := hPl5 pl (List.mem_of_getElem? hp1)
  have sT := Same.new hT0 (.tup [.int (pl : Int), .int t])
  refine ⟨T0, _, rfl, SqT.of aC, rfl, _, _, rfl, _, _, rfl, rfl, ?_⟩
  have hssl : ss.length = vs.length := by rw [Paired.length hM9, shareF_len]
  refine ⟨_, rfl, _, rfl, t, cT d (aF vs ps), rfl, (hab t (List.mem_of_getElem? ht1)).mono (by decide), htb.mono (by decide), fun z => by omega, fun _ pp hpp => ?_⟩
  have tP := Same.new hpp (.tup [.int (aL t (cT d (aF vs ps))), .int (aI t (cT d (aF vs ps)))])
  have s10 := sT.trans tP
  have hPP : upd (upd H' T0 (.tup [.int (pl : Int), .int t])) pp (.tup [.int (aL t (cT d (aF vs ps))), .int (aI t (cT d (aF vs ps)))]) pp = some (.tup [.int (aL t (cT d (aF vs ps))), .int (aI t (cT d (aF vs ps)))]) := aC
  generalize upd (upd H' T0 (.tup [.int (pl : Int), .int t])) pp (.tup [.int (aL t (cT d (aF vs ps))), .int (aI t (cT d (aF vs ps)))]) = H10 at *
  have hS10 := s10 _ _ hS9
  refine ⟨_, rfl, _, rfl, sh, _, _, pl, rfl, rfl, hS10, ?_, ?_⟩
  ·rw [List.length_map, hssl]; unfold ixN; rw [if_pos (by omega), if_pos (by omega), Int.toNat_natCast]
  refine ⟨_, _, ss.set pl pp, rfl, (s9.trans s10).upd_old hsh0, by rw [aQ hpash]; exact s10 _ _ h9, by rw [aQ hlsh]; exact s10 _ _ hL9, by rw [aC, List.map_set], ?_⟩
  have hz : (ps.zip (aO d (aF vs ps)))[i]? = some (pl, t) := by rw [List.getElem?_zip_eq_some]; exact ⟨hp1, ht1⟩
  rw [b9 hz, shareF_snoc]
  exact ((hM9.same s10).set pl hPP).upd hS10
 rintro σ H' ⟨v6, v7, ss, rfl, s9, h9, hL9, hS9, hM9⟩
 have hzl : (ps.zip (aO d (aF vs ps))).length = ps.length := by rw [List.length_zip, hal5, Nat.min_self]
 rw [List.length_map, List.length_map, hal5, Nat.min_self, List.take_of_length_le (by omega)] at hM9
 exact ⟨_, rfl, q sh H' ss ps s9 hsh0 hS9 hM9 ⟨hLast, [ix], ⟨mn, ⟨m1, m2⟩, by rw [eix]⟩, hSr⟩⟩
end
end Mw
namespace Mw
open PySem L2
section
variable {P : Program} {w : World} {K : PySem.W.Frag} {mg : Str -> Option Value} {base : Heap} {f : Addr} {fd : FuncData} {nf C ns : Addr} {C_Corral X_NoFraction X_NoSide X_MendError X_OneSide X_NoPoint X_NoRow X_NotParted X_NoTable X_NoText X_TooMany X_WrongBook : Addr}
theorem lJ : FnScope ["vectors"] ["vectors"] (aG (top 34)) := ⟨rfl, rfl, rfl, by decide +kernel, rfl, by decide +kernel, by decide +kernel⟩
theorem ok_nearest_mixture (F : Fun K "nearest_mixture" "nearest_mixture" (top 34) f fd) (T : Txt BN mg) (c_mixture : Cal P w K mg base 3 "mixture" ["vectors", "shares"] (spMixT K)) (c_nearest_shares : Cal P w K mg base 6 "nearest_shares" ["vectors"] (spNear K)) : FnOk P w K mg base CX0 7 f fd ["vectors"] (spNearM K) := by
 refine F.ok lJ (fun vs H Q E h => ?_) (fun cdv A outer s H vs Q E hr h => ?_)
 ·obtain ⟨va, as, vs, d, e, rfl, _⟩ := h
  rfl
 obtain ⟨va, as, vs, d, e, rfl, hV, q⟩ := h
 refine ⟨_, (aH (aU (aR c_mixture (hr.mono (by decide)) rfl (aA (pv 0) (aA (aR c_nearest_shares (hr.mono (by decide)) rfl (aA (pv 0) aB)) aB))))), ?_⟩
 refine ⟨_, rfl, _, rfl, va, as, vs, d, e, rfl, hV, fun r H1 ss ps s1 hr0 hR hT hFd => ?_⟩
 have hL := hFd.1
 have hV1 := hV.same s1
 have hO := wts_ok hL hV
 have hb := mix_line hL hV
 have hw := iV (d := d) (vs := vs) (ps := ps)
 have hab : ∀ v ∈ vs, ∀ x ∈ v, x.natAbs <= 2 ^ e := fun v hv x hx => lM (hV.lim.sq hv) hx
 refine ⟨va, r, as, ss, vs, wts d vs ps, cT d (aF vs ps), d, e, rfl, hV1.lst, hV1.pts, hV1.ne, hV1.dim, hR, by rw [oB hL] at hT; exact hT, hO, hw, hV1.dd, hab, by have := hV.line; have h2 : e <= e * (vs.length + 2) := Nat.le_mul_of_pos_right _ (by omega); omega, hb, fun r2 H2 rs S s2 hr2 hR2 hT2 hS2 => ?_⟩
 refine q r2 H2 rs ps S (s1.trans s2) (s1.free hr2) hR2 hT2 hFd hS2 ⟨hO.pos, hO.bits, by rw [hS2.1]; exact hV.dd, fun x hx => ?_⟩
 have h1 := m8 hS2 hw hO.nn hO.sum hab x hx
 show x.natAbs < 2 ^ 5900
 exact Nat.lt_of_le_of_lt h1 (Nat.lt_trans hb (Nat.pow_lt_pow_right (by decide) (by decide)))
end
end Mw
namespace Mw
open PySem L2
section
variable {P : Program} {w : World} {K : PySem.W.Frag} {mg : Str -> Option Value} {base : Heap} {f : Addr} {fd : FuncData} {nf C ns : Addr} {C_Corral X_NoFraction X_NoSide X_MendError X_OneSide X_NoPoint X_NoRow X_NotParted X_NoTable X_NoText X_TooMany X_WrongBook : Addr}
theorem sc_numbers_of : FnScope ["rows", "side"] ["rows", "side"] (aG (top 36)) := ⟨rfl, rfl, rfl, by decide +kernel, rfl, by decide +kernel, by decide +kernel⟩
theorem ok_numbers_of (F : Fun K "numbers_of" "numbers_of" (top 36) f fd) (T : Txt BN mg) : FnOk P w K mg base CX0 1 f fd ["rows", "side"] (spNums K) := by
 refine F.ok sc_numbers_of (fun vs H Q E h => ?_) (fun cdv A outer s H vs Q E hr h => ?_)
 ·obtain ⟨a, as, rs, s, rfl, _⟩ := h
  rfl
 obtain ⟨a, as, rs, s, rfl, hA, hR, hl, q⟩ := h
 refine ⟨_, (aH (aU (bQ (sc := aG (top 36)) (N := ["rows", "side"]) (NB := ["number", "row", "side"]) (fr := [none, none, some 1]) rfl (by decide +kernel) (pi_enum rfl (T.nb "enumerate" (by decide)) (aA (pv 0) aB)) (fun _ _ _ _ => (cG (K := K) (n := 2) rfl rfl (aW (aM (i := 0) (show (["number", "row", "side"] : List Str).Nodup by decide +kernel) rfl (Or.inl rfl)) (aW (aM (i := 1) (show (["number", "row", "side"] : List Str).Nodup by decide +kernel) rfl (Or.inl rfl)) cF)))) (fun _ _ _ _ => .one (bB dH (bC (b7 (K := K) rfl) (pv 1) aE (fun _ _ => rfl)) (pv 2) (bA _))) (fun _ _ _ _ => (pv 0))))), ?_⟩
 have hal : as.length = rs.length := Paired.length hR
 refine ⟨_, rfl, a, rfl, ⟨_, hA⟩, fun D hD => ?_⟩
 refine jK (xs := as.map V.ref) (fun k => decide ((rs.getD k ([], 0)).2 = s)) (fun j => .int (j : Nat)) hA (by rw [List.length_map]; exact Nat.le_of_lt (aN (by omega))) hD ?_ ?_
 ·rintro i x T0 H2 R R' hx s2 hT0 h1 h2
  obtain ⟨A, hA1, rfl⟩ := aS hx
  obtain ⟨r, hr1, p, hr2, hr3⟩ := paired_get hR hA1
  have hg : (rs.getD i ([], 0)) = r := by rw [List.getD_eq_getElem?_getD, hr1]; rfl
  have sT := Same.new hT0 (.tup [.int (i : Nat), .ref A])
  refine ⟨T0, _, rfl, SqT.of aC, rfl, _, _, rfl, _, _, rfl, rfl, ⟨rfl, ?_⟩, ?_⟩
  ·intro k v ek
   match k, ek with
   | 2, ek => exact ek
   | 0, ek => simp [aX] at ek
   | 1, ek => simp [aX] at ek
   | k + 3, ek => simp [aX] at ek
  refine ⟨_, rfl, A, _, _, _, rfl, rfl, (s2.trans sT).seqT hr2, rfl, _, rfl, rfl, _, rfl, ?_⟩
  refine c9 (fun c => ?_) (fun c => ?_)
  ·have c1 : r.2 = s := by injection c
   exact ⟨_, rfl, h1 (by rw [hg]; simpa using c1) _ (Same.refl _)⟩
  ·have c1 : ¬ r.2 = s := fun y => c (by rw [y])
   exact h2 (by rw [hg]; simpa using c1) _ (Same.refl _)
 rintro H2 s2 hD2
 rw [List.length_map, hal] at hD2
 exact q D H2 s2 hD (by rw [hD2]; rfl)
end
end Mw
namespace Mw
open PySem L2
section
variable {P : Program} {w : World} {K : PySem.W.Frag} {mg : Str -> Option Value} {base : Heap} {f : Addr} {fd : FuncData} {nf C ns : Addr} {C_Corral X_NoFraction X_NoSide X_MendError X_OneSide X_NoPoint X_NoRow X_NotParted X_NoTable X_NoText X_TooMany X_WrongBook : Addr}
theorem sc_points_of : FnScope ["rows", "side"] ["rows", "side"] (aG (top 37)) := ⟨rfl, rfl, rfl, by decide +kernel, rfl, by decide +kernel, by decide +kernel⟩
theorem ok_points_of (F : Fun K "points_of" "points_of" (top 37) f fd) (T : Txt BN mg) : FnOk P w K mg base CX0 1 f fd ["rows", "side"] (spPts K) := by
 refine F.ok sc_points_of (fun vs H Q E h => ?_) (fun cdv A outer s H vs Q E hr h => ?_)
 ·obtain ⟨a, as, rs, s, rfl, _⟩ := h
  rfl
 obtain ⟨a, as, rs, s, rfl, hA, hR, hl, q⟩ := h
 refine ⟨_, (aH (aU (bQ (sc := aG (top 37)) (N := ["rows", "side"]) (NB := ["point", "its_side", "side"]) (fr := [none, none, some 1]) rfl (by decide +kernel) (bD (pv 0)) (fun _ _ _ _ => (cG (K := K) (n := 2) rfl rfl (aW (aM (i := 0) (show (["point", "its_side", "side"] : List Str).Nodup by decide +kernel) rfl (Or.inl rfl)) (aW (aM (i := 1) (show (["point", "its_side", "side"] : List Str).Nodup by decide +kernel) rfl (Or.inl rfl)) cF)))) (fun _ _ _ _ => .one (bB dH (pv 1) (pv 2) (bA _))) (fun _ _ _ _ => (pv 0))))), ?_⟩
 have hal : as.length = rs.length := Paired.length hR
 obtain ⟨qs, hql, hqs⟩ := rows_pts hR
 refine ⟨_, rfl, a, rfl, ⟨_, hA⟩, fun D hD => ?_⟩
 refine dP (xs := as.map V.ref) (fun k => decide ((rs.getD k ([], 0)).2 = s)) (fun j => .ref (qs.getD j 0)) hA (by rw [List.length_map]; exact Nat.le_of_lt (aN (by omega))) hD ?_ ?_
 ·rintro i x H2 R R' hx s2 h1 h2
  obtain ⟨A, hA1, rfl⟩ := aS hx
  have hi : i < rs.length := by have := (List.getElem?_eq_some_iff.mp hA1).1; omega
  obtain ⟨r, hr1⟩ : ∃ r, rs[i]? = some r := ⟨_, List.getElem?_eq_getElem hi⟩
  obtain ⟨p, hp, hr2, hr3⟩ := hqs i A r hA1 hr1
  have hg : (rs.getD i ([], 0)) = r := by rw [List.getD_eq_getElem?_getD, hr1]; rfl
  have hgq : qs.getD i 0 = p := by rw [List.getD_eq_getElem?_getD, hp]; rfl
  refine ⟨A, _, rfl, s2.seqT hr2, rfl, _, _, rfl, _, _, rfl, rfl, ⟨rfl, ?_⟩, ?_⟩
  ·intro k v ek
   match k, ek with
   | 2, ek => exact ek
   | 0, ek => simp [aX] at ek
   | 1, ek => simp [aX] at ek
   | k + 3, ek => simp [aX] at ek
  refine ⟨_, rfl, _, rfl, rfl, _, rfl, ?_⟩
  refine c9 (fun c => ?_) (fun c => ?_)
  ·have c1 : r.2 = s := by injection c
   refine ⟨_, rfl, ?_⟩
   have := h1 (by rw [hg]; simpa using c1) H2 (Same.refl _)
   rw [hgq] at this
   exact this
  ·have c1 : ¬ r.2 = s := fun y => c (by rw [y])
   exact h2 (by rw [hg]; simpa using c1) _ (Same.refl _)
 rintro H2 s2 hD2
 rw [List.length_map, hal] at hD2
 have hpp := k6 (α := Nat) (R := fun b v => SqT K H2 b (v.map V.int)) (fun j => qs.getD j 0) s rs 0 (fun i r hr => by
  have hi : i < as.length := by have := (List.getElem?_eq_some_iff.mp hr).1; omega
  obtain ⟨p, hp, hr2, hr3⟩ := hqs i _ r (List.getElem?_eq_getElem hi) hr
  have hgq : qs.getD i 0 = p := by rw [List.getD_eq_getElem?_getD, hp]; rfl
  show SqT K H2 (qs.getD (0 + i) 0) _
  rw [Nat.zero_add, hgq]; exact s2.seqT hr3)
 refine q D H2 _ s2 hD ?_ hpp
 rw [hD2]
 unfold cK
 rw [List.range_eq_range', List.map_map]; rfl
end
end Mw
namespace Mw
open PySem L2
section
variable {P : Program} {w : World} {K : PySem.W.Frag} {mg : Str -> Option Value} {base : Heap} {f : Addr} {fd : FuncData} {nf C ns : Addr} {C_Corral X_NoFraction X_NoSide X_MendError X_OneSide X_NoPoint X_NoRow X_NotParted X_NoTable X_NoText X_TooMany X_WrongBook : Addr}
theorem pF : FnScope ["rows"] ["rows"] (aG (top 38)) := ⟨rfl, rfl, rfl, by decide +kernel, rfl, by decide +kernel, by decide +kernel⟩
theorem ok_are_of_both (F : Fun K "are_of_both" "are_of_both" (top 38) f fd) (T : Txt BN mg) (c_points_of : Cal P w K mg base 1 "points_of" ["rows", "side"] (spPts K)) : FnOk P w K mg base CX0 2 f fd ["rows"] (jO K) := by
 refine F.ok pF (fun vs H Q E h => ?_) (fun cdv A outer s H vs Q E hr h => ?_)
 ·obtain ⟨a, as, rs, rfl, _⟩ := h
  rfl
 obtain ⟨a, as, rs, rfl, hA, hR, hl, q1, q2⟩ := h
 refine ⟨_, (aH (aU (pe_and (fH mO (aY (cZ (K := K) rfl) rfl (T.nb "len" (by decide)) (by decide +kernel) (aA (aR c_points_of (hr.mono (by decide)) rfl (aA (pv 0) (aA aE aB))) aB)) aE (bA _)) (pe_one (fH mO (aY (cZ (K := K) rfl) rfl (T.nb "len" (by decide)) (by decide +kernel) (aA (aR c_points_of (hr.mono (by decide)) rfl (aA (pv 0) (aA aE aB))) aB)) aE (bA _)))))), ?_⟩
 refine ⟨_, rfl, a, as, rs, 0, rfl, hA, hR, hl, fun r H1 qs s1 hr0 hR1 hP1 => ?_⟩
 have hl1 : qs.length = (cO 0 rs).length := Paired.length hP1
 refine ⟨r, _, rfl, .inl (SqL.of hR1), _, _, rfl, rfl, _, rfl, ?_⟩
 refine c9 (fun z => ?_) (fun z => ?_)
 ·have z1 : (0 : Int) < ((qs.map V.ref).length : Int) := z
  rw [List.length_map] at z1
  refine ⟨_, rfl, a, as, rs, 1, rfl, s1.seq hA, hR.same s1, hl, fun r2 H2 qs2 s2 hr2 hR2 hP2 => ?_⟩
  have hl2 : qs2.length = (cO 1 rs).length := Paired.length hP2
  refine ⟨r2, _, rfl, .inl (SqL.of hR2), _, _, rfl, rfl, ?_⟩
  show Q (V.bl (decide ((0 : Int) < ((qs2.map V.ref).length : Int)))) H2
  by_cases c : bS rs
  ·have c2 := c.2
   rw [decide_eq_true (show (0 : Int) < ((qs2.map V.ref).length : Int) by rw [List.length_map]; omega)]
   exact q1 c H2 (s1.trans s2)
  ·rw [decide_eq_false (show ¬ (0 : Int) < ((qs2.map V.ref).length : Int) from fun y => c ⟨by omega, by rw [List.length_map] at y; omega⟩)]
   exact q2 c H2 (s1.trans s2)
 ·have z1 : ¬ (0 : Int) < ((qs.map V.ref).length : Int) := z
  rw [List.length_map] at z1
  exact q2 (fun c => by have := c.1; omega) H1 s1
end
end Mw
namespace Mw
open PySem L2
section
variable {P : Program} {w : World} {K : PySem.W.Frag} {mg : Str -> Option Value} {base : Heap} {f : Addr} {fd : FuncData} {nf C ns : Addr} {C_Corral X_NoFraction X_NoSide X_MendError X_OneSide X_NoPoint X_NoRow X_NotParted X_NoTable X_NoText X_TooMany X_WrongBook : Addr}
theorem oC : FnScope ["rows"] ["rows"] (aG (top 39)) := ⟨rfl, rfl, rfl, by decide +kernel, rfl, by decide +kernel, by decide +kernel⟩
theorem ok_look_at_both (F : Fun K "look_at_both" "look_at_both" (top 39) f fd) (T : Txt BN mg) (PR : Prog K mg C_Corral X_MendError X_NoFraction X_NoSide X_OneSide X_NoPoint X_NoRow X_NoTable X_NoText X_NotParted X_TooMany X_WrongBook) (c_look_at_sides : CalX P w K mg base 2 "look_at_sides" ["rows", "sides"] (o9 K X_NoSide)) (c_are_of_both : Cal P w K mg base 2 "are_of_both" ["rows"] (jO K)) : FnOk P w K mg base (CXE P w) 3 f fd ["rows"] (pA K X_NoSide X_OneSide) := by
 refine F.okX oC (fun vs H Q E h => ?_) (fun cdv A outer s H vs Q E hr h => ?_)
 ·obtain ⟨a, as, rs, rfl, _⟩ := h
  rfl
 obtain ⟨a, as, rs, rfl, hA, hR, hl, hS, hE, q⟩ := h
 refine ⟨_, (aD (cE (b6 c_look_at_sides (hr.mono (by decide)) rfl bZ (aA (pv 0) (aA aE aB))))
   (aH (b8 (oF (fL (aR c_are_of_both (hr.mono (by decide)) rfl (aA (pv 0) aB)))) (aH (nF rfl PR.x_OneSide.c rfl PR.x_OneSide.g kN (aA fO aB))) bJ))), ?_⟩
 refine ⟨_, rfl, a, as, rs, 2, rfl, hA, hR, hS, hE, fun hin => ?_⟩
 obtain ⟨q1, q2⟩ := q hin
 refine ⟨_, rfl, a, as, rs, rfl, hA, hR, hl, fun hb H1 s1 => ⟨_, rfl, eD ?_⟩, fun hb H1 s1 => ⟨_, rfl, iI ?_⟩⟩
 ·exact q2 hb H1 s1
 ·exact ⟨(by show 1 <= sizeLine; decide), q1 hb H1 s1⟩
end
end Mw
namespace Mw
open PySem L2
section
variable {P : Program} {w : World} {K : PySem.W.Frag} {mg : Str -> Option Value} {base : Heap} {f : Addr} {fd : FuncData} {nf C ns : Addr} {C_Corral X_NoFraction X_NoSide X_MendError X_OneSide X_NoPoint X_NoRow X_NotParted X_NoTable X_NoText X_TooMany X_WrongBook : Addr}
theorem hU : FnScope ["rows", "pairs", "one", "other"] ["rows"] (aG (top 40)) := ⟨rfl, rfl, rfl, by decide +kernel, rfl, by decide +kernel, by decide +kernel⟩
theorem ok_pairs_of (F : Fun K "pairs_of" "pairs_of" (top 40) f fd) (T : Txt BN mg) (c_numbers_of : Cal P w K mg base 1 "numbers_of" ["rows", "side"] (spNums K)) : FnOk P w K mg base CX0 2 f fd ["rows"] (o6 K) := by
 refine F.ok hU (fun vs H Q E h => ?_) (fun cdv A outer s H vs Q E hr h => ?_)
 ·obtain ⟨a, as, rs, rfl, _⟩ := h
  rfl
 obtain ⟨a, as, rs, rfl, hA, hR, hl, q⟩ := h
 refine ⟨_, (aD (aP (i := 1) hU.nd rfl (Or.inl rfl) (bO aB))
   (aD (cI PassesOwn.never rfl (bD (aR c_numbers_of (hr.mono (by decide)) rfl (aA (pv 0) (aA aE aB)))) (aM (i := 2) hU.nd rfl (Or.inl rfl)) (aH (cI PassesOwn.never rfl (bD (aR c_numbers_of (hr.mono (by decide)) rfl (aA (pv 0) (aA aE aB)))) (aM (i := 3) hU.nd rfl (Or.inl rfl)) (aH (cE (fI PySem.F.plainAttrs_list PySem.F.slot_list_append PySem.F.type_list_append cX (pv 1) (aA (eC (aA (pv 2) (aA (pv 3) aB))) aB)))))))
   (aH (aU (pv 1))))), ?_⟩
 refine ⟨(by show 0 <= sizeLine; decide), fun p hp => ?_⟩
 have s0 := Same.new hp (.lst [])
 refine ⟨_, rfl, a, as, rs, 1, rfl, s0.seq hA, hR.same s0, hl, fun r1 H1 s1 hr1 hR1 => ?_⟩
 have hp1 : H1 p = some (.lst []) := s1 _ _ aC
 have hpr1 : r1 ≠ p := fun e => by rw [e, aC] at hr1; cases hr1
 have s01 := s0.trans s1
 have hN1 := nums_few 1 rs
 have hN0 := nums_few 0 rs
 refine ⟨r1, rfl, ⟨_, SqL.of hR1⟩, ?_⟩
 refine dO (xs := (bV 1 rs).map fun (k : Nat) => V.int (k : Int)) (fun i σ H' => ∃ (v2 v3 : Option V) (bs : List Addr), σ = [some (.ref a), some (.ref p), v2, v3] /\ Same H H' /\ H' r1 = some (.lst ((bV 1 rs).map fun (k : Nat) => V.int (k : Int))) /\ H' p = some (.lst (bs.map V.ref)) /\ PrAt H' bs (((bV 1 rs).take i).flatMap fun i => (bV 0 rs).map fun (j : Nat) => (i, (j : Int))))
  ⟨none, none, [], rfl, s01, hR1, hp1, .nil⟩ (fun i σ H' _ ⟨_, _, _, _, _, e, _⟩ => SqL.of e) ?_ ?_
 ·rintro i x σ H2 hx ⟨v2, v3, bs, rfl, s2, hR2, hP2, hB2⟩
  obtain ⟨k, hk, rfl⟩ := aS (g := fun n : Nat => V.int (n : Int)) hx
  refine ⟨_, rfl, a, as, rs, 0, rfl, s2.seq hA, hR.same s2, hl, fun r2 H3 s3 hr2 hR3 => ?_⟩
  have hpr2 : r2 ≠ p := fun e => by rw [e, hP2] at hr2; cases hr2
  have hbl : bs.length = (((bV 1 rs).take i).flatMap fun i => (bV 0 rs).map fun (j : Nat) => (i, (j : Int))).length := Paired.length hB2
  have hbl2 : bs.length <= 400 := by
   rw [hbl]
   refine Nat.le_trans (flat_few (N := 20) fun i => by rw [List.length_map]; omega) ?_
   rw [List.length_take]
   exact Nat.le_trans (Nat.mul_le_mul_right 20 (show min i (bV 1 rs).length <= 20 by omega)) (by decide)
  refine ⟨r2, rfl, ⟨_, SqL.of hR3⟩, ?_⟩
  refine dO (xs := (bV 0 rs).map fun (k : Nat) => V.int (k : Int)) (fun j σ H' => ∃ (v3 : Option V) (cs : List Addr), σ = [some (.ref a), some (.ref p), some (.int (k : Int)), v3] /\ Same H H' /\ H' r1 = some (.lst ((bV 1 rs).map fun (k : Nat) => V.int (k : Int))) /\ H' r2 = some (.lst ((bV 0 rs).map fun (k : Nat) => V.int (k : Int))) /\ H' p = some (.lst (cs.map V.ref)) /\ cs.length <= 400 + j /\ PrAt H' cs ((((bV 1 rs).take i).flatMap fun i => (bV 0 rs).map fun (j : Nat) => (i, (j : Int))) ++ ((bV 0 rs).take j).map fun (j : Nat) => (k, (j : Int))))
   ⟨v3, bs, rfl, s2.trans s3, s3 _ _ hR2, hR3, s3 _ _ hP2, by omega, by rw [List.take_zero, List.map_nil, List.append_nil]; exact hB2.same s3⟩ (fun j σ H' _ ⟨_, _, _, _, _, e, _⟩ => SqL.of e) ?_ ?_
  ·rintro j x σ H4 hx2 ⟨w3, cs, rfl, s4, g1, g2, g3, g4, g5⟩
   obtain ⟨o, ho, rfl⟩ := aS (g := fun n : Nat => V.int (n : Int)) hx2
   have hj : j < (bV 0 rs).length := (List.getElem?_eq_some_iff.mp ho).1
   refine ⟨_, rfl, .inl ⟨rfl, _, SqL.of g3⟩, _, rfl, _, rfl, (by show 2 <= sizeLine; decide), fun c hc => ?_⟩
   have sc := Same.new hc (.tup [.int (k : Nat), .int (o : Int)])
   have e3 := sc _ _ g3
   refine ⟨p, _, _, rfl, rfl, e3, by rw [List.length_map]; exact small9 (by omega), ?_⟩
   refine ⟨_, cs ++ [c], rfl, (s4.trans sc).upd_old hp, by rw [aQ hpr1]; exact sc _ _ g1, by rw [aQ hpr2]; exact sc _ _ g2, by rw [aC, List.map_append]; rfl, by rw [List.length_append]; show cs.length + 1 <= _; omega, ?_⟩
   rw [b9 ho, List.map_append, <- List.append_assoc]
   refine PrAt.upd (ys := cs.map V.ref) ?_ e3
   exact Paired.app (g5.same sc) (.cons aC .nil)
  ·rintro σ H4 ⟨w3, cs, rfl, s4, g1, g2, g3, g4, g5⟩
   rw [List.length_map, List.take_length] at g5
   refine ⟨_, _, cs, rfl, s4, g1, g3, ?_⟩
   rw [b9 hk, List.flatMap_append, List.flatMap_cons, List.flatMap_nil, List.append_nil]
   exact g5
 ·rintro σ H2 ⟨v2, v3, bs, rfl, s2, hR2, hP2, hB2⟩
  rw [List.length_map, List.take_length] at hB2
  exact ⟨_, rfl, q p H2 bs s2 hp hP2 hB2⟩
end
end Mw
namespace Mw
open PySem L2
section
variable {P : Program} {w : World} {K : PySem.W.Frag} {mg : Str -> Option Value} {base : Heap} {f : Addr} {fd : FuncData} {nf C ns : Addr} {C_Corral X_NoFraction X_NoSide X_MendError X_OneSide X_NoPoint X_NoRow X_NotParted X_NoTable X_NoText X_TooMany X_WrongBook : Addr}
theorem sc_less : FnScope ["one", "other"] ["one", "other"] (aG (top 41)) := ⟨rfl, rfl, rfl, by decide +kernel, rfl, by decide +kernel, by decide +kernel⟩
theorem ok_less (F : Fun K "less" "less" (top 41) f fd) (T : Txt BN mg) : FnOk P w K mg base CX0 1 f fd ["one", "other"] (spLess K) := by
 refine F.ok sc_less (fun vs H Q E h => ?_) (fun cdv A outer s H vs Q E hr h => ?_)
 ·obtain ⟨a, b, xs, ys, rfl, _⟩ := h
  rfl
 obtain ⟨a, b, xs, ys, rfl, hA, hB, hl, q⟩ := h
 refine ⟨_, (aH (aU (bY (d0 (K := K) rfl) rfl (T.nb "tuple" (by decide)) (by decide +kernel) (aA (bQ (sc := aG (top 41)) (N := ["one", "other"]) (NB := ["first", "second"]) (fr := [none, none]) rfl (by decide +kernel) (fN rfl (T.nb "zip" (by decide)) (aA (pv 0) (aA (pv 1) aB))) (fun _ _ _ _ => (cG (K := K) (n := 2) rfl rfl (aW (aM (i := 0) (show (["first", "second"] : List Str).Nodup by decide +kernel) rfl (Or.inl rfl)) (aW (aM (i := 1) (show (["first", "second"] : List Str).Nodup by decide +kernel) rfl (Or.inl rfl)) cF)))) (fun _ _ _ _ => .nil) (fun _ _ _ _ => (aJ fQ (pv 0) (pv 1)))) aB)))), ?_⟩
 refine ⟨_, rfl, _, rfl, true, true, a, b, rfl, ⟨_, hA⟩, ⟨_, hB⟩, fun D hD => ?_⟩
 refine jI (us := xs.map V.int) (vs := ys.map V.int) (fun _ j y => ∃ x z, xs[j]? = some x /\ ys[j]? = some z /\ y = V.int (x - z)) (fun _ _ _ _ _ h => h) hA hB (by rw [List.length_map]; exact Nat.le_of_lt (aN hl)) hD ?_ ?_
 ·intro j x y T1 H5 R hx hy s5 hDn hT1 r3
  obtain ⟨x, hx1, rfl⟩ := aS hx
  obtain ⟨z, hz1, rfl⟩ := aS hy
  exact ⟨T1, _, rfl, SqT.of aC, rfl, _, _, rfl, _, _, rfl, rfl, c6 (n := 2) rfl, _, rfl, _, rfl, _, _, rfl, rfl, r3 _ _ (Same.refl _) ⟨x, z, hx1, hz1, rfl⟩⟩
 intro zs H5 s5 hL5 hyl hys
 have ez : zs = (d6 xs ys).map V.int := by
  refine dG (by rw [hyl]; unfold d6; rw [List.length_zipWith, List.length_map, List.length_map]) fun j y r h1 h2 => ?_
  obtain ⟨x, z, e1, e2, e3⟩ := hys j y h1
  unfold d6 at h2
  rw [List.getElem?_zipWith, e1, e2] at h2
  rw [e3, <- Option.some.inj h2]
 subst ez
 refine ⟨D, _, rfl, .inl ⟨SqL.of hL5, fun u hu => ?_⟩⟩
 exact q u _ (s5.trans (Same.new hu _)) (s5.free hu) aC
end
end Mw
namespace Mw
open PySem L2
section
variable {P : Program} {w : World} {K : PySem.W.Frag} {mg : Str -> Option Value} {base : Heap} {f : Addr} {fd : FuncData} {nf C ns : Addr} {C_Corral X_NoFraction X_NoSide X_MendError X_OneSide X_NoPoint X_NoRow X_NotParted X_NoTable X_NoText X_TooMany X_WrongBook : Addr}
theorem pE : FnScope ["rows"] ["rows"] (aG (top 42)) := ⟨rfl, rfl, rfl, by decide +kernel, rfl, by decide +kernel, by decide +kernel⟩
theorem ok_differences (F : Fun K "differences" "differences" (top 42) f fd) (T : Txt BN mg) (c_pairs_of : Cal P w K mg base 2 "pairs_of" ["rows"] (o6 K)) (c_less : Cal P w K mg base 1 "less" ["one", "other"] (spLess K)) : FnOk P w K mg base CX0 3 f fd ["rows"] (pB K) := by
 refine F.ok pE (fun vs H Q E h => ?_) (fun cdv A outer s H vs Q E hr h => ?_)
 ·obtain ⟨a, as, rs, m, rfl, _⟩ := h
  rfl
 obtain ⟨a, as, rs, m, rfl, hA, hR, hV, q⟩ := h
 refine ⟨_, (aH (aU (bQ (sc := aG (top 42)) (N := ["rows"]) (NB := ["one", "other", "rows"]) (fr := [none, none, some 0]) rfl (by decide +kernel) (bD (aR c_pairs_of (hr.mono (by decide)) rfl (aA (pv 0) aB))) (fun _ _ _ _ => (cG (K := K) (n := 2) rfl rfl (aW (aM (i := 0) (show (["one", "other", "rows"] : List Str).Nodup by decide +kernel) rfl (Or.inl rfl)) (aW (aM (i := 1) (show (["one", "other", "rows"] : List Str).Nodup by decide +kernel) rfl (Or.inl rfl)) cF)))) (fun _ _ _ _ => .nil) (fun _ _ _ _ => (aR c_less (hr.mono (by decide)) rfl (aA (bC (b7 (K := K) rfl) (bC (bE (K := K) rfl) (pv 2) (pv 0) (fun _ _ => rfl)) aE (fun _ _ => rfl)) (aA (bC (b7 (K := K) rfl) (bC (bE (K := K) rfl) (pv 2) (pv 1) (fun _ _ => rfl)) aE (fun _ _ => rfl)) aB))))))), ?_⟩
 have hal : as.length = rs.length := Paired.length hR
 refine ⟨_, rfl, a, as, rs, rfl, hA, hR, hV.len, fun r1 H1 bs s1 hr1 hR1 hB1 => ?_⟩
 have hbl : bs.length = (bP rs).length := Paired.length hB1
 have hp4 := lP hV.len
 have hR2 := hR.same s1
 refine ⟨r1, rfl, ⟨_, SqL.of hR1⟩, fun D hD => ?_⟩
 refine aZ (xs := bs.map V.ref) (fun H' j y => ∃ v, y = V.ref v /\ v ≠ D /\ ∀ p, (bP rs)[j]? = some p -> H' v = some (.tup ((d6 (rs.getD p.1 ([], 0)).1 (rs.getD p.2.toNat ([], 0)).1).map V.int))) ?_ (SqL.of hR1) (by rw [List.length_map]; exact Nat.le_of_lt (aN (by omega))) hD ?_ ?_
 ·rintro Ha Hb j y o ⟨v, e1, e2, e3⟩
  exact ⟨v, e1, e2, fun p hp => o _ _ e2 (e3 p hp)⟩
 ·intro j x H2 R hx s2 hDn r3
  obtain ⟨B, hB, rfl⟩ := aS hx
  obtain ⟨pr, hp1, hp2⟩ := paired_get hB1 hB
  obtain ⟨g1, g2, g3, _, _⟩ := jS (List.mem_of_getElem? hp1)
  obtain ⟨o, eo⟩ := Int.eq_ofNat_of_zero_le g2
  have g4 : o < rs.length := by omega
  obtain ⟨ra, hra⟩ : ∃ r, rs[pr.1]? = some r := ⟨_, List.getElem?_eq_getElem g1⟩
  obtain ⟨rb, hrb⟩ : ∃ r, rs[o]? = some r := ⟨_, List.getElem?_eq_getElem g4⟩
  obtain ⟨A1, hA1, q1, hq1, hq1'⟩ := paired_get' hR2 hra
  obtain ⟨A2, hA2, q2, hq2, hq2'⟩ := paired_get' hR2 hrb
  have at1 : atI (as.map V.ref) (pr.1 : Int) = some (.ref A1) := pU (k := pr.1) (by rw [List.getElem?_map, hA1]; rfl) rfl
  have at2 : atI (as.map V.ref) pr.2 = some (.ref A2) := pU (k := o) (by rw [List.getElem?_map, hA2]; rfl) eo
  have ea : rs.getD pr.1 ([], 0) = ra := by rw [List.getD_eq_getElem?_getD, hra]; rfl
  have eb : rs.getD pr.2.toNat ([], 0) = rb := by rw [List.getD_eq_getElem?_getD, show pr.2.toNat = o by omega, hrb]; rfl
  have s12 := s1.trans s2
  refine ⟨B, _, rfl, SqT.of (s2 _ _ hp2), rfl, _, _, rfl, _, _, rfl, rfl, ⟨rfl, ?_⟩, ?_⟩
  ·intro k v ek
   match k, ek with
   | 2, ek => exact ek
   | 0, ek => simp [aX] at ek
   | 1, ek => simp [aX] at ek
   | k + 3, ek => simp [aX] at ek
  refine ⟨_, rfl, _, rfl, a, _, _, _, rfl, rfl, s12.seq hA, at1, A1, _, _, _, rfl, rfl, s2.seqT hq1, rfl, _, rfl, _, rfl, a, _, _, _, rfl, rfl, s12.seq hA, at2, A2, _, _, _, rfl, rfl, s2.seqT hq2, rfl, q1, q2, ra.1, rb.1, rfl, s2.seqT hq1', s2.seqT hq2', by rw [hV.cnt ra (List.mem_of_getElem? hra)]; have := hV.few; omega, fun v H3 s3 hv0 hv => ?_⟩
  refine r3 _ _ s3 ⟨v, rfl, fun e => ?_, fun p hp => ?_⟩
  ·rw [e] at hv0; exact hDn hv0
  ·rw [hp1] at hp
   cases hp
   rw [ea, eb]; exact hv
 intro ys H2 s2 hL2 hyl hys
 obtain ⟨cs, rfl, hcs⟩ := mM (P := fun j c => ∀ p, (bP rs)[j]? = some p -> H2 c = some (.tup ((d6 (rs.getD p.1 ([], 0)).1 (rs.getD p.2.toNat ([], 0)).1).map V.int))) (fun j y hy => by
  obtain ⟨v, e1, e2, e3⟩ := hys j y hy
  exact ⟨v, e1, e3⟩)
 refine q D H2 cs (s1.trans s2) (s1.free hD) hL2 (eM ?_ fun j c v hc hv => ?_)
 ·rw [List.length_map, List.length_map] at hyl; unfold bG; rw [List.length_map]; omega
 ·obtain ⟨p, hp, rfl⟩ := iY hv
  exact hcs j c hc p hp
end
end Mw
namespace Mw
open PySem L2
section
variable {P : Program} {w : World} {K : PySem.W.Frag} {mg : Str -> Option Value} {base : Heap} {f : Addr} {fd : FuncData} {nf C ns : Addr} {C_Corral X_NoFraction X_NoSide X_MendError X_OneSide X_NoPoint X_NoRow X_NotParted X_NoTable X_NoText X_TooMany X_WrongBook : Addr}
theorem kA : FnScope ["rows"] ["rows"] (aG (top 43)) := ⟨rfl, rfl, rfl, by decide +kernel, rfl, by decide +kernel, by decide +kernel⟩
theorem ok_nearest_difference (F : Fun K "nearest_difference" "nearest_difference" (top 43) f fd) (T : Txt BN mg) (c_nearest_mixture : Cal P w K mg base 7 "nearest_mixture" ["vectors"] (spNearM K)) (c_differences : Cal P w K mg base 3 "differences" ["rows"] (pB K)) : FnOk P w K mg base CX0 8 f fd ["rows"] (o7 K) := by
 refine F.ok kA (fun vs H Q E h => ?_) (fun cdv A outer s H vs Q E hr h => ?_)
 ·obtain ⟨a, as, rs, m, rfl, _⟩ := h
  rfl
 obtain ⟨a, as, rs, m, rfl, hA, hR, hV, hb, q⟩ := h
 refine ⟨_, (aH (aU (aR c_nearest_mixture (hr.mono (by decide)) rfl (aA (aR c_differences (hr.mono (by decide)) rfl (aA (pv 0) aB)) aB)))), ?_⟩
 refine ⟨_, rfl, a, as, rs, m, rfl, hA, hR, hV, fun r1 H1 bs s1 hr1 hR1 hB1 => ?_⟩
 have hVA := diff_vat (K := K) hV hb hR1 hB1
 refine ⟨r1, bs, bG rs, m, 24, rfl, hVA, fun r2 H2 qs ps S s2 hr2 hR2 hT2 hFd hS hFr => ?_⟩
 have hn := qI hFd.1 hVA hS hV.few (by decide)
 exact q r2 H2 qs _ S (s1.trans s2) (s1.free hr2) hR2 hT2 ⟨ps, rfl, hFd, hS, hFr, hn.1, hn.2⟩
end
end Mw
namespace Mw
open PySem L2
section
variable {P : Program} {w : World} {K : PySem.W.Frag} {mg : Str -> Option Value} {base : Heap} {f : Addr} {fd : FuncData} {nf C ns : Addr} {C_Corral X_NoFraction X_NoSide X_MendError X_OneSide X_NoPoint X_NoRow X_NotParted X_NoTable X_NoText X_TooMany X_WrongBook : Addr}
theorem gW : FnScope ["rows", "constant"] ["rows"] (aG (top 44)) := ⟨rfl, rfl, rfl, by decide +kernel, rfl, by decide +kernel, by decide +kernel⟩
theorem ok_one_side_weights (F : Fun K "one_side_weights" "one_side_weights" (top 44) f fd) (T : Txt BN mg) (c_points_of : Cal P w K mg base 1 "points_of" ["rows", "side"] (spPts K)) : FnOk P w K mg base CX0 2 f fd ["rows"] (spOneW K) := by
 refine F.ok gW (fun vs H Q E h => ?_) (fun cdv A outer s H vs Q E hr h => ?_)
 ·obtain ⟨a, as, rs, m, rfl, _⟩ := h
  rfl
 obtain ⟨a, as, rs, m, rfl, hA, hR, hV, hne, q⟩ := h
 refine ⟨_, (aD (aP (i := 1) gW.nd rfl (Or.inl rfl) (pe_ifExp (bB mO (aY (cZ (K := K) rfl) rfl (T.nb "len" (by decide)) (by decide +kernel) (aA (aR c_points_of (hr.mono (by decide)) rfl (aA (pv 0) (aA aE aB))) aB)) aE (bA _)) aE (gT eZ aE)))
   (aH (aU (aJ (op_catA (K := K) rfl) (aJ op_repA (eC (aA aE aB)) (aY (cZ (K := K) rfl) rfl (T.nb "len" (by decide)) (by decide +kernel) (aA (bC (b7 (K := K) rfl) (bC (bE (K := K) rfl) (pv 0) aE (fun _ _ => rfl)) aE (fun _ _ => rfl)) aB))) (eC (aA (pv 1) aB)))))), ?_⟩
 obtain ⟨r0, hr0⟩ : ∃ r0, rs[0]? = some r0 := by
  cases rs with
  | nil => exact absurd rfl hne
  | cons r0 _ => exact ⟨r0, rfl⟩
 obtain ⟨A, hA1, pt, hr2, hr3⟩ := paired_get' hR hr0
 have hcnt := hV.cnt r0 (List.mem_of_getElem? hr0)
 have hpos := hV.pos
 have hfew := hV.few
 refine ⟨_, rfl, a, as, rs, 1, rfl, hA, hR, hV.len, fun r1 H1 qs s1 hr1 hR1 hP1 => ?_⟩
 have hl1 : qs.length = (cO 1 rs).length := Paired.length hP1
 refine ⟨r1, _, rfl, .inl (SqL.of hR1), _, _, rfl, rfl, _, rfl, ?_⟩
 have key : ∀ c : Int, c = (if 0 < (cO 1 rs).length then (1 : Int) else -1) -> ∀ H2, Same H H2 -> True := fun _ _ _ _ => trivial
 refine c9 (fun z => ?_) (fun z => ?_)
 ·have z1 : (0 : Int) < ((qs.map V.ref).length : Int) := z
  rw [List.length_map] at z1
  rw [if_pos (show 0 < (cO 1 rs).length by omega)] at q
  refine ⟨(by show 1 <= sizeLine; decide), fun p hp => ?_⟩
  have t1 := Same.new hp (.tup [.int 0])
  have s2 := s1.trans t1
  refine ⟨_, rfl, a, _, _, _, rfl, rfl, s2.seq hA, bW (j := 0) (by rw [List.getElem?_map, hA1]; rfl), A, _, _, _, rfl, rfl, s2.seqT hr2, rfl, pt, _, rfl, .inr (s2.seqT hr3), p, m, _, rfl, by rw [List.length_map, hcnt], aC, by simp, by omega, by omega, by decide, fun r3 H3 s3 h3 hR3 => ?_⟩
  refine ⟨_, rfl, (by show 1 <= sizeLine; decide), fun p4 hp4 => ?_⟩
  have t4 := Same.new hp4 (.tup [.int 1])
  refine ⟨r3, p4, _, _, rfl, rfl, SqT.of (t4 _ _ hR3), aC, by simp, ?_, fun r5 H5 s5 h5 hR5 => ?_⟩
  ·exact Nat.le_of_lt (aN (by simp; omega))
  ·have s35 := s3.trans (t4.trans s5)
   refine q r5 H5 (s2.trans s35) ?_ (by rw [hR5]; simp)
   rcases h5 with e | e
   ·rw [e]; exact (s2.trans s3).free hp4
   ·exact (s2.trans (s3.trans t4)).free e
 ·have z1 : ¬ (0 : Int) < ((qs.map V.ref).length : Int) := z
  rw [List.length_map] at z1
  rw [if_neg (show ¬ 0 < (cO 1 rs).length by omega)] at q
  refine ⟨_, rfl, ?_⟩
  refine ⟨(by show 1 <= sizeLine; decide), fun p hp => ?_⟩
  have t1 := Same.new hp (.tup [.int 0])
  have s2 := s1.trans t1
  refine ⟨_, rfl, a, _, _, _, rfl, rfl, s2.seq hA, bW (j := 0) (by rw [List.getElem?_map, hA1]; rfl), A, _, _, _, rfl, rfl, s2.seqT hr2, rfl, pt, _, rfl, .inr (s2.seqT hr3), p, m, _, rfl, by rw [List.length_map, hcnt], aC, by simp, by omega, by omega, by decide, fun r3 H3 s3 h3 hR3 => ?_⟩
  refine ⟨_, rfl, (by show 1 <= sizeLine; decide), fun p4 hp4 => ?_⟩
  have t4 := Same.new hp4 (.tup [.int (-1)])
  refine ⟨r3, p4, _, _, rfl, rfl, SqT.of (t4 _ _ hR3), aC, by simp, ?_, fun r5 H5 s5 h5 hR5 => ?_⟩
  ·exact Nat.le_of_lt (aN (by simp; omega))
  ·have s35 := s3.trans (t4.trans s5)
   refine q r5 H5 (s2.trans s35) ?_ (by rw [hR5]; simp)
   rcases h5 with e | e
   ·rw [e]; exact (s2.trans s3).free hp4
   ·exact (s2.trans (s3.trans t4)).free e
end
end Mw
namespace Mw
open PySem L2
section
variable {P : Program} {w : World} {K : PySem.W.Frag} {mg : Str -> Option Value} {base : Heap} {f : Addr} {fd : FuncData} {nf C ns : Addr} {C_Corral X_NoFraction X_NoSide X_MendError X_OneSide X_NoPoint X_NoRow X_NotParted X_NoTable X_NoText X_TooMany X_WrongBook : Addr}
theorem iO : FnScope ["rows", "way", "least", "greatest"] ["rows"] (aG (top 45)) := ⟨rfl, rfl, rfl, by decide +kernel, rfl, by decide +kernel, by decide +kernel⟩
theorem ok_parting (F : Fun K "parting" "parting" (top 45) f fd) (T : Txt BN mg) (c_look_at_sides : CalX P w K mg base 2 "look_at_sides" ["rows", "sides"] (o9 K X_NoSide)) (c_are_of_both : Cal P w K mg base 2 "are_of_both" ["rows"] (jO K)) (c_one_side_weights : Cal P w K mg base 2 "one_side_weights" ["rows"] (spOneW K)) (c_made_whole : Cal P w K mg base 3 "made_whole" ["some"] (spWholeT K)) (c_nearest_difference : Cal P w K mg base 8 "nearest_difference" ["rows"] (o7 K)) (c_product : Cal P w K mg base 1 "product" ["one", "other"] (iX K)) (c_points_of : Cal P w K mg base 1 "points_of" ["rows", "side"] (spPts K)) (c_part : CalX P w K mg base 2 "part" ["top", "bottom"] (j9 nf)) : FnOk P w K mg base (CXE P w) 9 f fd ["rows"] (spPartX K X_NoSide) := by
 refine F.okX iO (fun vs H Q E h => ?_) (fun cdv A outer s H vs Q E hr h => ?_)
 ·obtain ⟨a, as, rs, m, rfl, _⟩ := h
  rfl
 obtain ⟨a, as, rs, m, rfl, hA, hR, hV, hne, hEs, qq⟩ := h
 refine ⟨_, (aD (cE (b6 c_look_at_sides (hr.mono (by decide)) rfl bZ (aA (pv 0) (aA aE aB))))
   (aD (b8 (oF (fL (aR c_are_of_both (hr.mono (by decide)) rfl (aA (pv 0) aB)))) (aH (aU (aR c_one_side_weights (hr.mono (by decide)) rfl (aA (pv 0) aB)))) bJ)
   (aD (aP (i := 1) iO.nd rfl (Or.inr rfl) (aR c_made_whole (hr.mono (by decide)) rfl (aA (aR c_nearest_difference (hr.mono (by decide)) rfl (aA (pv 0) aB)) aB)))
   (aD (b8 (bB dH (aR c_product (hr.mono (by decide)) rfl (aA (pv 1) (aA (pv 1) aB))) aE (bA _)) (aH (aU pe_non)) bJ)
   (aD (aP (i := 2) iO.nd rfl (Or.inl rfl) (aY (jY rfl) rfl (T.nb "min" (by decide)) (by decide +kernel) (aA (bQ (sc := aG (top 45)) (N := ["rows", "way", "least", "greatest"]) (NB := ["point", "way"]) (fr := [none, some 1]) rfl (by decide +kernel) (bD (aR c_points_of (hr.mono (by decide)) rfl (aA (pv 0) (aA aE aB)))) (fun _ _ _ _ => (aM (i := 0) (show (["point", "way"] : List Str).Nodup by decide +kernel) rfl (Or.inl rfl))) (fun _ _ _ _ => .nil) (fun _ _ _ _ => (aR c_product (hr.mono (by decide)) rfl (aA (pv 1) (aA (pv 0) aB))))) aB)))
   (aD (aP (i := 3) iO.nd rfl (Or.inl rfl) (aY (call_maxL rfl) rfl (T.nb "max" (by decide)) (by decide +kernel) (aA (bQ (sc := aG (top 45)) (N := ["rows", "way", "least", "greatest"]) (NB := ["point", "way"]) (fr := [none, some 1]) rfl (by decide +kernel) (bD (aR c_points_of (hr.mono (by decide)) rfl (aA (pv 0) (aA aE aB)))) (fun _ _ _ _ => (aM (i := 0) (show (["point", "way"] : List Str).Nodup by decide +kernel) rfl (Or.inl rfl))) (fun _ _ _ _ => .nil) (fun _ _ _ _ => (aR c_product (hr.mono (by decide)) rfl (aA (pv 1) (aA (pv 0) aB))))) aB)))
   (aH (aU (aR c_made_whole (hr.mono (by decide)) rfl (aA (aJ (op_catA (K := K) rfl) (bY (d0 (K := K) rfl) rfl (T.nb "tuple" (by decide)) (by decide +kernel) (aA (bQ (sc := aG (top 45)) (N := ["rows", "way", "least", "greatest"]) (NB := ["number"]) (fr := [none]) rfl (by decide +kernel) (lN (pv 1)) (fun _ _ _ _ => (aM (i := 0) (show (["number"] : List Str).Nodup by decide +kernel) rfl (Or.inl rfl))) (fun _ _ _ _ => .nil) (fun _ _ _ _ => (eC (aA (pv 0) (aA aE aB))))) aB)) (eC (aA (b6 c_part (hr.mono (by decide)) rfl bZ (aA (aJ fQ (gT eZ (pv 2)) (pv 3)) (aA aE aB))) aB))) aB)))))))))), ?_⟩
 have hfew := hV.few
 refine ⟨_, rfl, a, as, rs, 2, rfl, hA, hR, hV.sid, hEs, fun hin => ?_⟩
 have q1 : ¬ bS rs -> ∀ r H', Same H H' -> H r = none -> H' r = some (.tup ((List.replicate m 0 ++ [if 0 < (cO 1 rs).length then (1 : Int) else -1]).map V.int)) -> Q (.ref r) H' := fun hb r H' s h0 h1 => qq hin _ H' s
 have q2 : bS rs -> ∀ T S, NearT m (bG rs) T S -> ((∀ x ∈ S, x = 0) -> ∀ H', Same H H' -> Q .non H') /\ ((¬ ∀ x ∈ S, x = 0) -> ∀ r H' lo hi, Same H H' -> H r = none -> g9 rs (c5 S) lo hi -> H' r = some (.tup ((c5 ((c5 S).map (fun x => 2 * x) ++ [-lo - hi])).map V.int)) -> Q (.ref r) H') := fun hb T S hN => ⟨fun hz H' s => qq hin _ H' s, fun hz r H' lo hi s h0 hE h1 => qq hin _ H' s⟩
 refine ⟨_, rfl, a, as, rs, rfl, hA, hR, hV.len, fun hb H1 s1 => ⟨_, rfl, eD ?_⟩, fun hb H1 s1 => ⟨_, rfl, iI ?_⟩⟩
 case refine_2 => exact ⟨_, rfl, a, as, rs, m, rfl, s1.seq hA, hR.same s1, hV, hne, fun r H2 s2 hr0 hR2 => q1 hb r H2 (s1.trans s2) (s1.free hr0) hR2⟩
 refine ⟨_, rfl, a, as, rs, m, rfl, s1.seq hA, hR.same s1, hV, hb, fun r2 H2 qs T S s2 hr2 hR2 hT2 hN => ?_⟩
 have ⟨ps, eT, hFd, hS, hFr, hS14, hT12⟩ := hN
 have hS29 : ∀ x ∈ S, Bits 2950 x := fun x hx => (hS14 x hx).mono (by decide)
 refine ⟨r2, qs, _, S, rfl, SqT.of hR2, hT2, hFr, fun w H3 s3 hw0 hW => ?_⟩
 obtain ⟨q3, q4⟩ := q2 hb T S hN
 have hW29 := prim_le hS29
 have hwl : (c5 S).length = m := by rw [qF, hS.1]
 have hzero : (∀ x ∈ S, x = 0) ↔ dot (c5 S) (c5 S) = 0 := ⟨fun y => m4 _ fun x hx => by
   unfold c5 at hx
   rw [if_pos (lB y)] at hx
   exact y x hx, fun y => prim_zero (dot_selfV y)⟩
 generalize c5 S = W at *
 have s13 := s1.trans (s2.trans s3)
 refine ⟨_, rfl, _, rfl, w, w, true, true, W, W, rfl, SqT.of hW, SqT.of hW, by omega, fun x hx => (hW29 x hx).mono (by decide), fun x hx => (hW29 x hx).mono (by decide), fun H4 s4 => ?_⟩
 have s14 := s13.trans s4
 refine ⟨rfl, _, rfl, ?_⟩
 refine c9 (fun z => ?_) (fun z => ?_)
 ·have z1 : dot W W = 0 := by injection z
  exact q3 (hzero.mpr z1) H4 s14
 have z1 : ¬ ∀ x ∈ S, x = 0 := fun y => z (by show V.int (dot W W) = V.int 0; rw [hzero.mp y])
 refine ⟨_, rfl, a, as, rs, 1, rfl, s14.seq hA, hR.same s14, hV.len, fun r5 H5 qs5 s5 hr5 hR5 hP5 => ?_⟩
 have hl5 : qs5.length = (cO 1 rs).length := Paired.length hP5
 have hn5 : (cO 1 rs).length <= 20 := by unfold cO; rw [List.length_map]; exact Nat.le_trans (List.length_filter_le _ _) hV.len
 have hn0 : (cO 0 rs).length <= 20 := by unfold cO; rw [List.length_map]; exact Nat.le_trans (List.length_filter_le _ _) hV.len
 refine ⟨r5, rfl, ⟨_, SqL.of hR5⟩, fun D hD => ?_⟩
 refine aZ (xs := qs5.map V.ref) (fun _ j y => ∀ v, (cO 1 rs)[j]? = some v -> y = .int (dot W v)) (fun _ _ _ _ _ h => h) (SqL.of hR5) (by rw [List.length_map]; exact Nat.le_of_lt (aN (by omega))) hD ?_ ?_
 ·intro j x H6 R hx s6 _ r6
  obtain ⟨A, hA1, rfl⟩ := aS hx
  obtain ⟨v, hv1, hv2⟩ := paired_get hP5 hA1
  obtain ⟨r, hr, _, er⟩ := fF.mp (List.mem_of_getElem? hv1)
  refine ⟨wk1 rfl, _, rfl, _, rfl, w, A, true, true, W, v, rfl, SqT.of ((s4.trans (s5.trans s6)) _ _ hW), s6.seqT hv2, by omega, fun x hx => (hW29 x hx).mono (by decide), fun y hy => ?_, fun H7 s7 => r6 _ _ s7 fun v2 hv2 => ?_⟩
  ·have := hV.low r hr y (by rw [er]; exact hy)
   exact dW (by omega) (by omega) (by decide)
  ·rw [hv1] at hv2; cases hv2; rfl
 intro ys H6 s6 hL6 hyl hys
 have ey : ys = ((cO 1 rs).map (dot W)).map V.int := by
  rw [List.map_map]
  exact dG (by rw [hyl, List.length_map, hl5]) fun j y v h1 h2 => hys j y h1 v h2
 subst ey
 refine ⟨D, _, rfl, SqL.of hL6, by rw [List.length_map]; exact hb.2, fun lo lo1 lo2 => ?_⟩
 have s16 := s14.trans (s5.trans s6)
 refine ⟨_, rfl, a, as, rs, 0, rfl, s16.seq hA, hR.same s16, hV.len, fun r7 H7 qs7 s7 hr7 hR7 hP7 => ?_⟩
 have hl7 : qs7.length = (cO 0 rs).length := Paired.length hP7
 have hW6 := (s4.trans (s5.trans s6)) _ _ hW
 refine ⟨r7, rfl, ⟨_, SqL.of hR7⟩, fun D7 hD7 => ?_⟩
 refine aZ (xs := qs7.map V.ref) (fun _ j y => ∀ v, (cO 0 rs)[j]? = some v -> y = .int (dot W v)) (fun _ _ _ _ _ h => h) (SqL.of hR7) (by rw [List.length_map]; exact Nat.le_of_lt (aN (by omega))) hD7 ?_ ?_
 ·intro j x H8 R hx s8 _ r8
  obtain ⟨A, hA1, rfl⟩ := aS hx
  obtain ⟨v, hv1, hv2⟩ := paired_get hP7 hA1
  obtain ⟨r, hr, _, er⟩ := fF.mp (List.mem_of_getElem? hv1)
  refine ⟨wk1 rfl, _, rfl, _, rfl, w, A, true, true, W, v, rfl, SqT.of ((s7.trans s8) _ _ hW6), s8.seqT hv2, by omega, fun x hx => (hW29 x hx).mono (by decide), fun y hy => ?_, fun H9 s9 => r8 _ _ s9 fun v2 hv2 => ?_⟩
  ·have := hV.low r hr y (by rw [er]; exact hy)
   exact dW (by omega) (by omega) (by decide)
  ·rw [hv1] at hv2; cases hv2; rfl
 intro ys H8 s8 hL8 hyl hys
 have ey : ys = ((cO 0 rs).map (dot W)).map V.int := by
  rw [List.map_map]
  exact dG (by rw [hyl, List.length_map, hl7]) fun j y v h1 h2 => hys j y h1 v h2
 subst ey
 refine ⟨D7, _, rfl, SqL.of hL8, by rw [List.length_map]; exact hb.1, fun hi hi1 hi2 => ?_⟩
 have blo := mY hV hwl hW29 lo1
 have bhi := mY hV hwl hW29 hi1
 have s18 := s16.trans (s7.trans s8)
 have hW8 := (s7.trans s8) _ _ hW6
 refine ⟨_, rfl, w, rfl, ⟨_, SqT.of hW8⟩, fun D9 hD9 => ?_⟩
 refine jJ (xs := W.map V.int) (fun H' j y => ∃ (c : Addr) (x : Int), y = V.ref c /\ c ≠ D9 /\ W[j]? = some x /\ H' c = some (.tup [.int x, .int 1])) ?_ (SqT.of hW8) (by rw [List.length_map]; exact Nat.le_of_lt (aN (by omega))) hD9 ?_ ?_
 ·rintro Ha Hb j y o ⟨c, x, e1, e2, e3, e4⟩
  exact ⟨c, x, e1, e2, e3, o _ _ e2 e4⟩
 ·intro j x H9 R hx s9 hDn r9
  obtain ⟨x, hx1, rfl⟩ := aS hx
  refine ⟨c6 (n := 1) rfl, _, rfl, (by show 2 <= sizeLine; decide), fun c hc => ?_⟩
  exact r9 _ _ (Same.new hc _) ⟨c, x, rfl, fun e => hDn (by rw [<- e]; exact hc), hx1, aC⟩
 intro ys H9 s9 hL9 hyl hys
 obtain ⟨cs, rfl, hcs⟩ := mM (P := fun j c => ∃ x, W[j]? = some x /\ H9 c = some (.tup [.int x, .int 1])) (fun j y hy => by
  obtain ⟨c, x, e1, e2, e3, e4⟩ := hys j y hy
  exact ⟨c, e1, x, e3, e4⟩)
 rw [List.length_map, List.length_map] at hyl
 refine ⟨D9, _, rfl, .inl ⟨SqL.of hL9, fun u1 hu1 => ?_⟩⟩
 have t1 := Same.new hu1 (.tup (cs.map V.ref))
 have hU1 : upd H9 u1 (.tup (cs.map V.ref)) u1 = some (.tup (cs.map V.ref)) := aC
 generalize upd H9 u1 (.tup (cs.map V.ref)) = H10 at *
 refine ⟨_, rfl, _, rfl, _, rfl, _, _, rfl, rfl, -lo - hi, 2, rfl, ?_, ?_, fun y => absurd y (by decide), fun _ u2 hu2 => ?_⟩
 ·have h1 : lo.natAbs < 2 ^ 2970 := blo
  have h2 : hi.natAbs < 2 ^ 2970 := bhi
  have h3 : (2 : Nat) ^ 3000 = 1073741824 * 2 ^ 2970 := by rw [show (1073741824 : Nat) = 2 ^ 30 by decide, <- Nat.pow_add]
  show (-lo - hi).natAbs < 2 ^ 3000
  omega
 ·exact dW (by decide) (by decide) (by decide)
 have t2 := Same.new hu2 (.tup [.int (aL (-lo - hi) 2), .int (aI (-lo - hi) 2)])
 have hU2 : upd H10 u2 (.tup [.int (aL (-lo - hi) 2), .int (aI (-lo - hi) 2)]) u2 = some (.tup [.int (aL (-lo - hi) 2), .int (aI (-lo - hi) 2)]) := aC
 generalize upd H10 u2 (.tup [.int (aL (-lo - hi) 2), .int (aI (-lo - hi) 2)]) = H11 at *
 refine ⟨(by show 1 <= sizeLine; decide), fun u3 hu3 => ?_⟩
 have t3 := Same.new hu3 (.tup [.ref u2])
 refine ⟨u1, u3, _, _, rfl, rfl, SqT.of (t3 _ _ (t2 _ _ hU1)), aC, by simp, ?_, fun u4 H12 s12 h12 hR12 => ?_⟩
 ·rw [List.length_map]; exact Nat.le_of_lt (aN (by show cs.length + 1 <= 1000; omega))
 have sA := s18.trans (s9.trans (t1.trans (t2.trans (t3.trans s12))))
 have hfr : TupsAt H12 (cs ++ [u2]) (frT 2 (W.map (fun x => 2 * x) ++ [-lo - hi])) := by
  unfold frT
  rw [List.map_append, List.map_map]
  refine Paired.app (eM (by rw [List.length_map]; exact hyl) fun j c f hc hf => ?_) (.cons ((t3.trans s12) _ _ hU2) .nil)
  obtain ⟨x, hx, rfl⟩ := iY hf
  obtain ⟨x', e1, e2⟩ := hcs j c hc
  rw [hx] at e1
  cases e1
  have := (t1.trans (t2.trans (t3.trans s12))) _ _ e2
  show H12 c = some (.tup [.int (aL (2 * x) 2), .int (aI (2 * x) 2)])
  rw [(frac_two x).1, (frac_two x).2]; exact this
 refine ⟨u4, cs ++ [u2], 2, W.map (fun x => 2 * x) ++ [-lo - hi], rfl, SqT.of (by rw [hR12, List.map_append]; rfl), hfr, ⟨by decide, dW (by decide) (by decide) (by decide), by rw [List.length_append, List.length_map]; show W.length + 1 <= 900; omega, fun x hx => ?_⟩, fun u5 H13 s13' h13 hR13 => ?_⟩
 ·rcases List.mem_append.mp hx with y | y
  ·obtain ⟨x', hx', rfl⟩ := List.mem_map.mp y
   have h1 : x'.natAbs < 2 ^ 2950 := hW29 x' hx'
   refine Bits.mono (n := 2951) ?_ (by decide)
   have h3 : (2 : Nat) ^ 2951 = 2 * 2 ^ 2950 := by rw [Nat.pow_succ, Nat.mul_comm]
   show (2 * x').natAbs < 2 ^ 2951
   omega
  ·rw [List.mem_singleton.mp y]
   have h1 : lo.natAbs < 2 ^ 2970 := blo
   have h2 : hi.natAbs < 2 ^ 2970 := bhi
   have h3 : (2 : Nat) ^ 2971 = 2 * 2 ^ 2970 := by rw [Nat.pow_succ, Nat.mul_comm]
   refine Bits.mono (n := 2971) ?_ (by decide)
   show (-lo - hi).natAbs < 2 ^ 2971
   omega
 ·exact q4 z1 u5 H13 lo hi (sA.trans s13') (sA.free h13) ⟨⟨lo1, lo2⟩, ⟨hi1, hi2⟩⟩ hR13
end
end Mw
namespace Mw
open PySem L2
section
variable {P : Program} {w : World} {K : PySem.W.Frag} {mg : Str -> Option Value} {base : Heap} {f : Addr} {fd : FuncData} {nf C ns : Addr} {C_Corral X_NoFraction X_NoSide X_MendError X_OneSide X_NoPoint X_NoRow X_NotParted X_NoTable X_NoText X_TooMany X_WrongBook : Addr}
theorem dM : FnScope ["rows", "shares", "pair", "share", "number"] ["rows"] (aG (top 46)) := ⟨rfl, rfl, rfl, by decide +kernel, rfl, by decide +kernel, by decide +kernel⟩
theorem ok_sides_mixture (F : Fun K "sides_mixture" "sides_mixture" (top 46) f fd) (T : Txt BN mg) (c_look_at_both : CalX P w K mg base 3 "look_at_both" ["rows"] (pA K X_NoSide X_OneSide)) (c_pairs_of : Cal P w K mg base 2 "pairs_of" ["rows"] (o6 K)) (c_nearest_shares : Cal P w K mg base 6 "nearest_shares" ["vectors"] (spNear K)) (c_differences : Cal P w K mg base 3 "differences" ["rows"] (pB K)) (c_both : CalX P w K mg base 3 "both" ["one", "other"] (lG K nf j8 fR)) : FnOk P w K mg base (CXE P w) 8 f fd ["rows"] (m9 K X_NoSide X_OneSide) := by
 refine F.okX dM (fun vs H Q E h => ?_) (fun cdv A outer s H vs Q E hr h => ?_)
 ·obtain ⟨a, as, rs, m, rfl, _⟩ := h
  rfl
 obtain ⟨a, as, rs, m, rfl, hA, hR, hV, hEs, qq⟩ := h
 refine ⟨_, (aD (cE (b6 c_look_at_both (hr.mono (by decide)) rfl bZ (aA (pv 0) aB)))
   (aD (aP (i := 1) dM.nd rfl (Or.inl rfl) (aJ lR (bO (aA (eC (aA aE (aA aE aB))) aB)) (aY (cZ (K := K) rfl) rfl (T.nb "len" (by decide)) (by decide +kernel) (aA (pv 0) aB))))
   (aD (cI PassesOwn.leaving rfl (fN rfl (T.nb "zip" (by decide)) (aA (aR c_pairs_of (hr.mono (by decide)) rfl (aA (pv 0) aB)) (aA (aR c_nearest_shares (hr.mono (by decide)) rfl (aA (aR c_differences (hr.mono (by decide)) rfl (aA (pv 0) aB)) aB)) aB))) (cG (K := K) (n := 2) rfl rfl (aW (aM (i := 2) dM.nd rfl (Or.inl rfl)) (aW (aM (i := 3) dM.nd rfl (Or.inl rfl)) cF))) (aH (cI PassesOwn.leaving rfl (lN (pv 2)) (aM (i := 4) dM.nd rfl (Or.inl rfl)) (aH (ps_asg (b6 c_both (hr.mono (by decide)) rfl bZ (aA (bC (bE (K := K) rfl) (pv 1) (pv 4) (fun _ _ => rfl)) (aA (pv 3) aB))) (pg_sub (pv 1) (pv 4) set_list))))))
   (aH (aU (pv 1)))))), ?_⟩
 have hal : as.length = rs.length := Paired.length hR
 have hrl := hV.len
 refine ⟨_, rfl, a, as, rs, rfl, hA, hR, hV.len, hV.sid, hEs, fun hin => ⟨(qq hin).1, fun hb H1 s1 => ?_⟩⟩
 have q := (qq hin).2 hb
 refine ⟨(by show 2 <= sizeLine; decide), fun p6 hp6 => ⟨(by show 1 <= sizeLine; decide), fun p7 hp7 => ?_⟩⟩
 have t6 := Same.new hp6 (.tup [.int 0, .int 1])
 have hP6 : upd H1 p6 (.tup [.int 0, .int 1]) p6 = some (.tup [.int 0, .int 1]) := aC
 generalize upd H1 p6 (.tup [.int 0, .int 1]) = H6 at *
 have t7 := Same.new hp7 (.lst [.ref p6])
 have hP7 : upd H6 p7 (.lst [.ref p6]) p7 = some (.lst [.ref p6]) := aC
 have hP6' := t7 _ _ hP6
 have s17 := s1.trans (t6.trans t7)
 generalize upd H6 p7 (.lst [.ref p6]) = H7 at *
 refine ⟨_, rfl, a, _, rfl, .inl (s17.seq hA), p7, _, _, rfl, rfl, hP7, by omega, by rw [List.length_map]; omega, ?_, fun sh hsh => ?_⟩
 ·rw [List.length_map, hal, Int.toNat_natCast]
  exact Nat.le_of_lt (aN (by show 1 * rs.length <= 1000; omega))
 have eR : (List.replicate (((as.map V.ref).length : Int)).toNat [V.ref p6]).flatten = (List.replicate rs.length p6).map V.ref := by
  rw [List.length_map, hal, Int.toNat_natCast]; simp
 rw [eR]
 have hsh0 : H sh = none := s17.free hsh
 have t8 := Same.new hsh (.lst ((List.replicate rs.length p6).map V.ref))
 have hSh : upd H7 sh (.lst ((List.replicate rs.length p6).map V.ref)) sh = some (.lst ((List.replicate rs.length p6).map V.ref)) := aC
 have hP8 := t8 _ _ hP6'
 have s18 := s17.trans t8
 generalize upd H7 sh (.lst ((List.replicate rs.length p6).map V.ref)) = H8 at *
 refine ⟨_, rfl, a, as, rs, rfl, s18.seq hA, hR.same s18, hV.len, fun r9 H9 bs s9 hr9 hR9 hB9 => ?_⟩
 have s19 := s18.trans s9
 refine ⟨_, rfl, a, as, rs, m, rfl, s19.seq hA, hR.same s19, hV, fun r10 H10 cs s10 hr10 hR10 hC10 => ?_⟩
 have hVA := diff_vat (K := K) hV hb hR10 hC10
 refine ⟨r10, cs, bG rs, m, 24, rfl, hVA, fun r11 H11 ss0 ps s11 hr11 hR11 hF11 hFd => ?_⟩
 have hLast := hFd.1
 rw [oB hLast] at hF11
 have hT0 := hLast.good.tpos
 have hSp := lT (n := m) (vs := bG rs) (ts := wts m (bG rs) ps) hVA.dim iV
 have hn := qI hLast hVA hSp hV.few (by decide)
 have hfw := hV.few
 have hSW : SideW m rs (cT m (aF (bG rs) ps)) (gE m (bG rs) (wts m (bG rs) ps)) (accW m rs ps) := ⟨ps, rfl, hFd, hSp, ⟨hT0, hn.2.mono (by decide), by rw [hSp.1]; omega, fun x hx => (hn.1 x hx).mono (by decide)⟩, hn.1, hn.2, rfl⟩
 have hT12 := hn.2
 have hO := wts_ok hLast hVA
 obtain ⟨T, eT⟩ : ∃ T, T = cT m (aF (bG rs) ps) := ⟨_, rfl⟩
 have hwl : (wts m (bG rs) ps).length = (bP rs).length := by rw [iV, diff_len]
 have hwT : ∀ w ∈ wts m (bG rs) ps, 0 <= w /\ w <= T := fun w hw => ⟨hO.nn w hw, by rw [eT, <- hO.sum]; exact (lE hO.nn).2 w hw⟩
 rw [<- eT] at hF11 hSW hT0 hT12
 have hle : ∀ (i : Nat) (k : Nat), 0 <= (gV rs.length (((wts m (bG rs) ps).zip (bP rs)).take i)).getD k 0 /\ (gV rs.length (((wts m (bG rs) ps).zip (bP rs)).take i)).getD k 0 <= 100 * T := fun i k => by
  have := acc_low (n := rs.length) (T := T) (qs := ((wts m (bG rs) ps).zip (bP rs)).take i) (fun q hq => by
   have h1 := zip_ok m rs ps (List.mem_of_mem_take hq)
   have h2 := jS h1.2
   exact ⟨hwT _ h1.1, h2.1, h2.2.2.1, fun e => by rw [e] at h2; have h3 := h2.2.2.2; omega⟩) k
  refine ⟨this.1, Int.le_trans this.2 (Int.mul_le_mul_of_nonneg_right ?_ (Int.le_of_lt hT0))⟩
  have h5 : (((wts m (bG rs) ps).zip (bP rs)).take i).length <= (bP rs).length := by rw [List.length_take, List.length_zip]; omega
  have h6 := lP hV.len
  omega
 have s811 := s9.trans (s10.trans s11)
 have hB11 : PrAt H11 bs (bP rs) := hB9.same (s10.trans s11)
 have hshr9 : r9 ≠ sh := fun e => by rw [e, hSh] at hr9; cases hr9
 have hshr11 : r11 ≠ sh := fun e => by rw [e, (s9.trans s10) _ _ hSh] at hr11; cases hr11
 have hR9' := (s10.trans s11) _ _ hR9
 refine ⟨false, false, r9, r11, rfl, ⟨_, SqL.of hR9'⟩, ⟨_, SqL.of hR11⟩, ?_⟩
 refine kF (b1 := false) (b2 := false) (xs := bs.map V.ref) (ys := ss0.map V.ref) (fun i σ H' => ∃ (v2 v3 v4 : Option V) (ss : List Addr), σ = [some (.ref a), some (.ref sh), v2, v3, v4] /\ Same H H' /\ H' r9 = some (.lst (bs.map V.ref)) /\ H' r11 = some (.lst (ss0.map V.ref)) /\ PrAt H' bs (bP rs) /\ TupsAt H' ss0 (frT T (wts m (bG rs) ps)) /\ H' sh = some (.lst (ss.map V.ref)) /\ TupsAt H' ss (frT T (gV rs.length (((wts m (bG rs) ps).zip (bP rs)).take i))))
  ⟨none, none, none, List.replicate rs.length p6, rfl, s18.trans s811, hR9', hR11, hB11, hF11, s811 _ _ hSh, tups_zero hT0 (s811 _ _ hP8)⟩
  (fun i σ H' _ ⟨_, _, _, _, _, _, g1, g2, _⟩ => ⟨SqL.of g1, SqL.of g2⟩) ?_ ?_
 ·rintro i x y T0 σ H12 hx hy hT0' ⟨v2, v3, v4, ss, rfl, s12, g1, g2, g3, g4, g5, g6⟩
  obtain ⟨B, hB1, rfl⟩ := aS hx
  obtain ⟨F, hF1, rfl⟩ := aS hy
  obtain ⟨pr, hp1, hp2⟩ := paired_get g3 hB1
  obtain ⟨w, hw1, hw2⟩ := fY g4 hF1
  have hz : ((wts m (bG rs) ps).zip (bP rs))[i]? = some (w, pr) := by rw [List.getElem?_zip_eq_some]; exact ⟨hw1, hp1⟩
  obtain ⟨k1, k2, k3, _, _⟩ := jS (List.mem_of_getElem? hp1)
  obtain ⟨w0, wT⟩ := hwT w (List.mem_of_getElem? hw1)
  have sT := Same.new hT0' (.tup [.ref B, .ref F])
  have hsl : ss.length = rs.length := by rw [Paired.length g6]; unfold frT; rw [List.length_map, jM]
  refine ⟨T0, _, rfl, SqT.of aC, rfl, _, _, rfl, _, _, rfl, rfl, ?_⟩
  have hB13 : upd H12 T0 (.tup [.ref B, .ref F]) B = some (.tup [.int (pr.1 : Nat), .int pr.2]) := sT _ _ hp2
  have hle0 := hle i
  generalize hacc : gV rs.length (((wts m (bG rs) ps).zip (bP rs)).take i) = acc at *
  have hal0 : acc.length = rs.length := by rw [<- hacc, jM]
  refine ⟨_, rfl, B, rfl, ⟨_, SqT.of hB13⟩, ?_⟩
  have hF13 := sT _ _ hw2
  refine for_tup (xs := [.int (pr.1 : Nat), .int pr.2]) (fun j σ H' => ∃ (v4 : Option V) (ss : List Addr) (l : List Int), σ = [some (.ref a), some (.ref sh), some (.ref B), some (.ref F), v4] /\ Same H H' /\ H' B = some (.tup [.int (pr.1 : Nat), .int pr.2]) /\ H' F = some (.tup [.int (aL w T), .int (aI w T)]) /\ H' r9 = some (.lst (bs.map V.ref)) /\ H' r11 = some (.lst (ss0.map V.ref)) /\ PrAt H' bs (bP rs) /\ TupsAt H' ss0 (frT T (wts m (bG rs) ps)) /\ H' sh = some (.lst (ss.map V.ref)) /\ ss.length = rs.length /\ TupsAt H' ss (frT T l) /\ (∀ k, 0 <= l.getD k 0 /\ l.getD k 0 <= 100 * T + j * T) /\ l.length = rs.length /\ (j = 0 -> l = acc) /\ (j = 1 -> l = eG acc pr.1 w) /\ (j = 2 -> l = eG (eG acc pr.1 w) pr.2.toNat w))
   ⟨v4, ss, acc, rfl, s12.trans sT, hB13, hF13, sT _ _ g1, sT _ _ g2, g3.same sT, g4.same sT, sT _ _ g5, hsl, g6.same sT, fun k => by have := hle0 k; rw [show ((0 : Nat) : Int) * T = 0 from Int.zero_mul _]; omega, hal0, fun _ => rfl, fun e => absurd e (by decide), fun e => absurd e (by decide)⟩
   (fun j σ H' _ ⟨_, _, _, _, _, e, _⟩ => SqT.of e) ?_ ?_
  ·rintro j x σ H14 hx4 ⟨u4, ss4, l, rfl, s14, f1, f2, f3, f4, f5, f6, f7, f8, f9, f10, f11, f12, f13, f14⟩
   obtain ⟨k, hkl, rfl, hj1, hk⟩ : ∃ k : Nat, k < rs.length /\ x = V.int (k : Int) /\ j < 2 /\ ((j = 0 /\ k = pr.1) \/ (j = 1 /\ k = pr.2.toNat)) := by
    match j, hx4 with
    | 0, hx4 => exact ⟨pr.1, k1, (Option.some.inj hx4).symm, by decide, .inl ⟨rfl, rfl⟩⟩
    | 1, hx4 => exact ⟨pr.2.toNat, k3, by rw [<- Option.some.inj hx4, show ((pr.2.toNat : Nat) : Int) = pr.2 by omega], by decide, .inr ⟨rfl, rfl⟩⟩
    | j + 2, hx4 => simp at hx4
   obtain ⟨A, hA1⟩ : ∃ A, ss4[k]? = some A := ⟨_, List.getElem?_eq_getElem (by omega)⟩
   obtain ⟨lk, hl1, hl2⟩ := fY f9 hA1
   have elk : l.getD k 0 = lk := by rw [List.getD_eq_getElem?_getD, hl1]; rfl
   have hat : atI (ss4.map V.ref) (k : Int) = some (.ref A) := pU (k := k) (by rw [List.getElem?_map, hA1]; rfl) rfl
   have hlb := f10 k
   rw [elk] at hlb
   have hjT : (j : Int) * T <= 2 * T := Int.mul_le_mul_of_nonneg_right (by omega) (Int.le_of_lt hT0)
   have tb : T.natAbs < 2 ^ 125 := hT12
   have b1 : Bits 200 (aL lk T) := Nat.lt_of_le_of_lt (gJ _ _) (by
    have e : (2 : Nat) ^ 200 = 37778931862957161709568 * 2 ^ 125 := by decide
    omega)
   have b2 : Bits 200 (aI lk T) := Nat.lt_of_le_of_lt (gK _ _) (by
    have e : (2 : Nat) ^ 200 = 37778931862957161709568 * 2 ^ 125 := by decide
    omega)
   have b3 : Bits 200 (aL w T) := Nat.lt_of_le_of_lt (gJ _ _) (by
    have e : (2 : Nat) ^ 200 = 37778931862957161709568 * 2 ^ 125 := by decide
    omega)
   have b4 : Bits 200 (aI w T) := Nat.lt_of_le_of_lt (gK _ _) (by
    have e : (2 : Nat) ^ 200 = 37778931862957161709568 * 2 ^ 125 := by decide
    omega)
   have hb1 := bR (t := lk) (b := T) (by omega)
   have hb2 := bR (t := w) (b := T) (by omega)
   refine ⟨_, rfl, _, rfl, sh, _, _, _, rfl, rfl, SqL.of f7, hat, _, rfl, A, F, _, _, _, _, rfl, SqT.of hl2, SqT.of f2, b1.mono (by decide), b2.mono (by decide), b3.mono (by decide), b4.mono (by decide), fun z => absurd z (Int.mul_ne_zero (by omega) (by omega)), fun _ pp hpp => ?_⟩
   have ep := qO (P := lk) (w := w) hT0
   have eX : j8 (aL lk T) (aI lk T) (aL w T) (aI w T) = aL lk T * aI w T + aL w T * aI lk T := rfl
   have eY : fR (aL lk T) (aI lk T) (aL w T) (aI w T) = aI lk T * aI w T := rfl
   rw [eX, eY, ep.1, ep.2, <- elk]
   have tP := Same.new hpp (.tup [.int (aL (l.getD k 0 + w) T), .int (aI (l.getD k 0 + w) T)])
   have hPP : upd H14 pp (.tup [.int (aL (l.getD k 0 + w) T), .int (aI (l.getD k 0 + w) T)]) pp = some (.tup [.int (aL (l.getD k 0 + w) T), .int (aI (l.getD k 0 + w) T)]) := aC
   generalize upd H14 pp (.tup [.int (aL (l.getD k 0 + w) T), .int (aI (l.getD k 0 + w) T)]) = H15 at *
   have hS15 := tP _ _ f7
   refine ⟨_, rfl, _, rfl, sh, _, _, k, rfl, rfl, hS15, ?_, ?_⟩
   ·rw [List.length_map, f8]; unfold ixN; rw [if_pos (by omega), if_pos (by omega), Int.toNat_natCast]
   have up : ∀ {b : Addr} {xs : List V}, H15 b = some (.tup xs) -> upd H15 sh (.lst ((ss4.map V.ref).set k (.ref pp))) b = some (.tup xs) := fun {b xs} e => by rw [aQ (fun z => by rw [z, hS15] at e; cases e)]; exact e
   refine ⟨_, ss4.set k pp, eG l k w, rfl, (s14.trans tP).upd_old hsh0, up (tP _ _ f1), up (tP _ _ f2), by rw [aQ hshr9]; exact tP _ _ f3, by rw [aQ hshr11]; exact tP _ _ f4, (f5.same tP).upd hS15, (f6.same tP).upd hS15, by rw [aC, List.map_set], by rw [List.length_set, f8], (tups_add (f9.same tP) hPP).upd hS15, fun k' => ?_, by rw [jZ, f11], fun e => absurd e (by omega), fun e => ?_, fun e => ?_⟩
   ·rw [mC (by omega)]
    have := f10 k'
    have e : ((j + 1 : Nat) : Int) * T = (j : Int) * T + T := by rw [Int.natCast_add, Int.add_mul]; show _ + 1 * T = _; omega
    rw [e]
    by_cases c : k = k'
    ·rw [if_pos c]; omega
    ·rw [if_neg c]; omega
   ·have hj0 : j = 0 := by omega
    rcases hk with ⟨_, h⟩ | ⟨h, _⟩
    ·rw [h, f12 hj0]
    ·omega
   ·have hj1' : j = 1 := by omega
    rcases hk with ⟨h, _⟩ | ⟨_, h⟩
    ·omega
    ·rw [h, f13 hj1']
  ·rintro σ H14 ⟨u4, ss4, l, rfl, s14, f1, f2, f3, f4, f5, f6, f7, f8, f9, f10, f11, f12, f13, f14⟩
   refine ⟨_, _, _, ss4, rfl, s14, f3, f4, f5, f6, f7, ?_⟩
   rw [b9 hz, mD, hacc, <- f14 rfl]
   exact f9
 ·rintro σ H12 ⟨v2, v3, v4, ss, rfl, s12, g1, g2, g3, g4, g5, g6⟩
  have hbl : bs.length = (bP rs).length := Paired.length g3
  have hsl : ss0.length = (wts m (bG rs) ps).length := by rw [Paired.length g4]; unfold frT; rw [List.length_map]
  rw [List.length_map, List.length_map, hbl, hsl, hwl, Nat.min_self, List.take_of_length_le (by rw [List.length_zip]; omega)] at g6
  exact ⟨_, rfl, q T _ _ hSW sh H12 ss s12 hsh0 g5 g6⟩
end
end Mw
namespace Mw
open PySem L2
section
variable {P : Program} {w : World} {K : PySem.W.Frag} {mg : Str -> Option Value} {base : Heap} {f : Addr} {fd : FuncData} {nf C ns : Addr} {C_Corral X_NoFraction X_NoSide X_MendError X_OneSide X_NoPoint X_NoRow X_NotParted X_NoTable X_NoText X_TooMany X_WrongBook : Addr}
theorem eV : FnScope ["rows", "total", "number"] ["rows"] (aG (top 47)) := ⟨rfl, rfl, rfl, by decide +kernel, rfl, by decide +kernel, by decide +kernel⟩
theorem ok_width_square (F : Fun K "width_square" "width_square" (top 47) f fd) (T : Txt BN mg) (c_look_at_both : CalX P w K mg base 3 "look_at_both" ["rows"] (pA K X_NoSide X_OneSide)) (c_nearest_difference : Cal P w K mg base 8 "nearest_difference" ["rows"] (o7 K)) (c_both : CalX P w K mg base 3 "both" ["one", "other"] (lG K nf j8 fR)) (c_by : CalX P w K mg base 3 "by" ["one", "other"] (lG K nf nX fR)) : FnOk P w K mg base (CXE P w) 9 f fd ["rows"] (kK K X_NoSide X_OneSide) := by
 refine F.okX eV (fun vs H Q E h => ?_) (fun cdv A outer s H vs Q E hr h => ?_)
 ·obtain ⟨a, as, rs, m, rfl, _⟩ := h
  rfl
 obtain ⟨a, as, rs, m, rfl, hA, hR, hV, hEs, qq⟩ := h
 refine ⟨_, (aD (cE (b6 c_look_at_both (hr.mono (by decide)) rfl bZ (aA (pv 0) aB)))
   (aD (aP (i := 1) eV.nd rfl (Or.inl rfl) (eC (aA aE (aA aE aB))))
   (aD (cI PassesOwn.leaving rfl (lN (aR c_nearest_difference (hr.mono (by decide)) rfl (aA (pv 0) aB))) (aM (i := 2) eV.nd rfl (Or.inl rfl)) (aH (aP (i := 1) eV.nd rfl (Or.inl rfl) (b6 c_both (hr.mono (by decide)) rfl bZ (aA (pv 1) (aA (b6 c_by (hr.mono (by decide)) rfl bZ (aA (pv 2) (aA (pv 2) aB))) aB))))))
   (aH (aU (pv 1)))))), ?_⟩
 refine ⟨_, rfl, a, as, rs, rfl, hA, hR, hV.len, hV.sid, hEs, fun hin => ⟨(qq hin).1, fun hb H1 s1 => ?_⟩⟩
 have q := (qq hin).2 hb
 refine ⟨(by show 2 <= sizeLine; decide), fun p hp => ?_⟩
 have t1 := Same.new hp (.tup [.int 0, .int 1])
 have hP : upd H1 p (.tup [.int 0, .int 1]) p = some (.tup [.int 0, .int 1]) := aC
 generalize upd H1 p (.tup [.int 0, .int 1]) = H2 at *
 have s12 := s1.trans t1
 refine ⟨_, rfl, a, as, rs, m, rfl, s12.seq hA, hR.same s12, hV, hb, fun r2 H3 qs T S s3 hr2 hR3 hT3 hN => ?_⟩
 have ⟨ps, eT, hFd, hS, hFr, hS14, hT12⟩ := hN
 have hpos := hFr.pos
 have hql : qs.length = (frT T S).length := Paired.length hT3
 have hsl := hS.1
 have hmf := hV.few
 refine ⟨r2, rfl, ⟨_, SqT.of hR3⟩, ?_⟩
 refine for_tup (xs := qs.map V.ref) (fun i σ H' => ∃ (v2 : Option V) (c : Addr), σ = [some (.ref a), some (.ref c), v2] /\ Same H3 H' /\ H c = none /\ H' c = some (.tup [.int (iN T (S.take i)), .int (fT T (S.take i))]))
  ⟨none, p, rfl, Same.refl _, s1.free hp, by rw [s3 _ _ hP]; unfold iN fT; rw [List.take_zero, show dot ([] : List Int) [] = 0 from rfl, (dJ (Int.mul_pos hpos hpos)).1, (dJ (Int.mul_pos hpos hpos)).2]⟩ (fun i σ H' _ ⟨_, _, _, s, _⟩ => SqT.of (s _ _ hR3)) ?_ ?_
 ·rintro i x σ H4 hx ⟨v2, c, rfl, s4, hc0, hC⟩
  obtain ⟨A, hA1, rfl⟩ := aS hx
  obtain ⟨fr, hf1, hf2⟩ := paired_get hT3 hA1
  unfold frT at hf1
  obtain ⟨x, hx1, rfl⟩ := iY hf1
  have hA4 : H4 A = some (.tup [.int (aL x T), .int (aI x T)]) := s4 _ _ hf2
  have b1 := hS14 x (List.mem_of_getElem? hx1)
  have b2 : Bits 149 (aL x T) := Nat.lt_of_le_of_lt (gJ _ _) b1
  have b3 : Bits 125 (aI x T) := Nat.lt_of_le_of_lt (gK _ _) hT12
  have hbne : aI x T ≠ 0 := by have := bR (t := x) (b := T) (by omega); omega
  refine ⟨_, rfl, _, rfl, _, rfl, A, A, aL x T, aI x T, aL x T, aI x T, rfl, SqT.of hA4, SqT.of hA4, b2.mono (by decide), b3.mono (by decide), b2.mono (by decide), b3.mono (by decide), fun z => absurd z (Int.mul_ne_zero hbne hbne), fun _ p5 hp5 => ?_⟩
  obtain ⟨e1, e2⟩ := frac_sq (x := x) hpos
  have eX : nX (aL x T) (aI x T) (aL x T) (aI x T) = aL x T * aL x T := rfl
  have eY : fR (aL x T) (aI x T) (aL x T) (aI x T) = aI x T * aI x T := rfl
  rw [eX, eY, e1, e2]
  have t5 := Same.new hp5 (.tup [.int (aL (x * x) (T * T)), .int (aI (x * x) (T * T))])
  have hP5 : upd H4 p5 (.tup [.int (aL (x * x) (T * T)), .int (aI (x * x) (T * T))]) p5 = _ := aC
  generalize upd H4 p5 (.tup [.int (aL (x * x) (T * T)), .int (aI (x * x) (T * T))]) = H5 at *
  obtain ⟨d1, d2⟩ := sq_bits (n := i) hS14 hT12 (by omega)
  obtain ⟨d3, d4⟩ := one_sq_bits (T := T) b1 hT12
  refine ⟨c, p5, _, _, _, _, rfl, SqT.of (t5 _ _ hC), SqT.of hP5, d1.mono (by decide), d2.mono (by decide), d3.mono (by decide), d4.mono (by decide), fun z => absurd z ?_, fun _ p6 hp6 => ?_⟩
  ·have h1 := bR (t := dot (S.take i) (S.take i)) (b := T * T) (Int.ne_of_gt (Int.mul_pos hpos hpos))
   have h2 := bR (t := x * x) (b := T * T) (Int.ne_of_gt (Int.mul_pos hpos hpos))
   exact Int.mul_ne_zero (by unfold fT; omega) (by omega)
  ·refine ⟨_, p6, rfl, s4.trans (t5.trans (Same.new hp6 _)), (s12.trans (s3.trans (s4.trans t5))).free hp6, ?_⟩
   rw [aC]
   have e := sq_step (T := T) hpos hx1
   unfold j8 fR
   rw [e.1, e.2]
 ·rintro σ H4 ⟨v2, c, rfl, s4, hc0, hC⟩
  rw [List.length_map, hql, show (frT T S).length = S.length by unfold frT; rw [List.length_map], List.take_length] at hC
  exact ⟨_, rfl, q T S hN c H4 (s12.trans (s3.trans s4)) hc0 hC⟩
end
end Mw
namespace Mw
open PySem L2
section
variable {P : Program} {w : World} {K : PySem.W.Frag} {mg : Str -> Option Value} {base : Heap} {f : Addr} {fd : FuncData} {nf C ns : Addr} {C_Corral X_NoFraction X_NoSide X_MendError X_OneSide X_NoPoint X_NoRow X_NotParted X_NoTable X_NoText X_TooMany X_WrongBook : Addr}
theorem sc_hold : FnScope ["rows", "numbers", "width", "some"] ["rows", "numbers", "width"] (aG (top 48)) := ⟨rfl, rfl, rfl, by decide +kernel, rfl, by decide +kernel, by decide +kernel⟩
theorem ok_hold (F : Fun K "hold" "hold" (top 48) f fd) (T : Txt BN mg) (c_are_of_both : Cal P w K mg base 2 "are_of_both" ["rows"] (jO K)) (c_width_square : CalX P w K mg base 9 "width_square" ["rows"] (kK K X_NoSide X_OneSide)) : FnOk P w K mg base CX0 10 f fd ["rows", "numbers", "width"] (spHoldX K) := by
 refine F.ok sc_hold (fun vs H Q E h => ?_) (fun cdv A outer s H vs Q E hr h => ?_)
 ·obtain ⟨a, nl, w, as, rs, m, ks, p, b, rfl, _⟩ := h
  rfl
 obtain ⟨a, nl, w, as, rs, m, ks, p, b, rfl, hA, hR, hV, hin, hNl, hks, hkl, hW, q⟩ := h
 refine ⟨_, (aD (dU (i := 3) sc_hold.nd rfl rfl (sc := aG (top 48)) (N := ["rows", "numbers", "width", "some"]) (NB := ["number", "rows"]) (fr := [none, some 0]) rfl (by decide +kernel) (bD (pv 1)) (fun _ _ _ _ => (aM (i := 0) (show (["number", "rows"] : List Str).Nodup by decide +kernel) rfl (Or.inl rfl))) (fun _ _ _ _ => .nil) (fun _ _ _ _ => (bC (bE (K := K) rfl) (pv 1) (pv 0) (fun _ _ => rfl))))
   (aH (aU (pe_and (aR c_are_of_both (hr.mono (by decide)) rfl (aA (pv 3) aB)) (pe_one (fH (op_eqTI (K := K) rfl (Nat.lt_of_le_of_lt (Nat.le_add_right _ 8) hr.units8)) (b6 c_width_square (hr.mono (by decide)) rfl cC (aA (pv 3) aB)) (pv 2) (bA _))))))), ?_⟩
 have hal : as.length = rs.length := Paired.length hR
 refine ⟨_, rfl, nl, rfl, ⟨_, SqL.of hNl⟩, fun D hD => ?_⟩
 refine aZ (xs := ks.map fun (k : Nat) => V.int (k : Int)) (fun H' j y => ∃ A : Addr, y = V.ref A /\ ∀ k, ks[j]? = some k -> as[k]? = some A) (fun _ _ _ _ _ h => h) (SqL.of hNl) (by rw [List.length_map]; exact Nat.le_of_lt (aN (by omega))) hD ?_ ?_
 ·intro i x H2 R hx s2 _ r2
  obtain ⟨k, hk, rfl⟩ := aS (g := fun n : Nat => V.int (n : Int)) hx
  have hkl := hks k (List.mem_of_getElem? hk)
  obtain ⟨A, hA1⟩ : ∃ A, as[k]? = some A := ⟨_, List.getElem?_eq_getElem (by omega)⟩
  have hat : atI (as.map V.ref) (k : Int) = some (.ref A) := pU (k := k) (by rw [List.getElem?_map, hA1]; rfl) rfl
  refine ⟨wk1 rfl, _, rfl, _, rfl, a, _, _, _, rfl, rfl, s2.seq hA, hat, r2 _ _ (Same.refl _) ⟨A, rfl, fun k2 hk2 => ?_⟩⟩
  rw [hk] at hk2; cases hk2; exact hA1
 intro ys H3 s3 hL3 hyl hys
 obtain ⟨cs, rfl, hcs⟩ := mM (P := fun j c => ∀ k, ks[j]? = some k -> as[k]? = some c) (fun j y hy => by
  obtain ⟨A, e1, e2⟩ := hys j y hy
  exact ⟨A, e1, e2⟩)
 rw [List.length_map, List.length_map] at hyl
 have hRs : RowsAt K H3 cs (kJ rs ks) := by
  unfold kJ
  refine eM (by rw [List.length_map]; exact hyl) fun j c f hc hf => ?_
  obtain ⟨k, hk, rfl⟩ := iY hf
  obtain ⟨r, hr1, p, hr2, hr3⟩ := paired_get (hR.same s3) (hcs j c hc k hk)
  rw [show rs.getD k ([], 0) = r by rw [List.getD_eq_getElem?_getD, hr1]; rfl]
  exact ⟨p, hr2, hr3⟩
 have hVs := subR_v hV hks hkl
 have hins : ∀ r ∈ kJ rs ks, InR 2 r.2 := fun r hr => hin r (kI hks hr)
 refine ⟨_, rfl, D, cs, kJ rs ks, rfl, SqL.of hL3, hRs, hVs.len, fun hb H4 s4 => ⟨_, rfl, iI ?_⟩, fun hb H4 s4 => ⟨_, rfl, eD ?_⟩⟩
 ·refine ⟨_, rfl, D, cs, kJ rs ks, m, rfl, SqL.of (s4 _ _ hL3), hRs.same s4, hVs, fun r hr z => absurd (hins r hr) z, fun _ => ⟨fun z => absurd hb z, fun _ T S hN w2 H5 s5 hw2 hW2 => ?_⟩⟩
  have s35 := s3.trans (s4.trans s5)
  refine ⟨_, rfl, w2, w, [iN T S, fT T S], [p, b], rfl, rfl, SqT.of hW2, SqT.of (s35 _ _ hW), ?_⟩
  exact q H5 _ s35
 ·exact q H4 _ (s3.trans s4)
end
end Mw
namespace Mw
open PySem L2
section
variable {P : Program} {w : World} {K : PySem.W.Frag} {mg : Str -> Option Value} {base : Heap} {f : Addr} {fd : FuncData} {nf C ns : Addr} {C_Corral X_NoFraction X_NoSide X_MendError X_OneSide X_NoPoint X_NoRow X_NotParted X_NoTable X_NoText X_TooMany X_WrongBook : Addr}
theorem fE : FnScope ["rows", "width", "numbers", "number", "others"] ["rows"] (aG (top 49)) := ⟨rfl, rfl, rfl, by decide +kernel, rfl, by decide +kernel, by decide +kernel⟩
theorem ok_holders (F : Fun K "holders" "holders" (top 49) f fd) (T : Txt BN mg) (c_width_square : CalX P w K mg base 9 "width_square" ["rows"] (kK K X_NoSide X_OneSide)) (c_sides_mixture : CalX P w K mg base 8 "sides_mixture" ["rows"] (m9 K X_NoSide X_OneSide)) (c_hold : Cal P w K mg base 10 "hold" ["rows", "numbers", "width"] (spHoldX K)) : FnOk P w K mg base (CXE P w) 11 f fd ["rows"] (nY K X_NoSide X_OneSide) := by
 refine F.okX fE (fun vs H Q E h => ?_) (fun cdv A outer s H vs Q E hr h => ?_)
 ·obtain ⟨a, as, rs, m, rfl, _⟩ := h
  rfl
 obtain ⟨a, as, rs, m, rfl, hA, hR, hV, hEs, qq⟩ := h
 refine ⟨_, (aD (aP (i := 1) fE.nd rfl (Or.inl rfl) (b6 c_width_square (hr.mono (by decide)) rfl bZ (aA (pv 0) aB)))
   (aD (dU (i := 2) fE.nd rfl rfl (sc := aG (top 49)) (N := ["rows", "width", "numbers", "number", "others"]) (NB := ["number", "share"]) (fr := [none, none]) rfl (by decide +kernel) (pi_enum rfl (T.nb "enumerate" (by decide)) (aA (b6 c_sides_mixture (hr.mono (by decide)) rfl bZ (aA (pv 0) aB)) aB)) (fun _ _ _ _ => (cG (K := K) (n := 2) rfl rfl (aW (aM (i := 0) (show (["number", "share"] : List Str).Nodup by decide +kernel) rfl (Or.inl rfl)) (aW (aM (i := 1) (show (["number", "share"] : List Str).Nodup by decide +kernel) rfl (Or.inl rfl)) cF)))) (fun _ _ _ _ => .one (bB (op_neTI (K := K) rfl hr.units8) (pv 1) (eC (aA aE (aA aE aB))) (bA _))) (fun _ _ _ _ => (pv 0)))
   (aD (cI PassesOwn.leaving rfl (bD (bY (oX (K := K) rfl) rfl (T.nb "list" (by decide)) (by decide +kernel) (aA (pv 2) aB))) (aM (i := 3) fE.nd rfl (Or.inr rfl)) (aD (dU (i := 4) fE.nd rfl rfl (sc := aG (top 49)) (N := ["rows", "width", "numbers", "number", "others"]) (NB := ["other", "number"]) (fr := [none, some 3]) rfl (by decide +kernel) (bD (pv 2)) (fun _ _ _ _ => (aM (i := 0) (show (["other", "number"] : List Str).Nodup by decide +kernel) rfl (Or.inl rfl))) (fun _ _ _ _ => .one (bB oM (pv 0) (pv 1) (bA _))) (fun _ _ _ _ => (pv 0)))
   (aH (b8 (fL (aR c_hold (hr.mono (by decide)) rfl (aA (pv 0) (aA (pv 4) (aA (pv 1) aB))))) (aH (aP (i := 2) fE.nd rfl (Or.inl rfl) (pv 4))) bJ))))
   (aH (aU (pv 2)))))), ?_⟩
 have hal : as.length = rs.length := Paired.length hR
 have hrl := hV.len
 refine ⟨_, rfl, a, as, rs, m, rfl, hA, hR, hV, hEs, fun hin => ⟨(qq hin).1, fun hb N S hN w H1 s1 hw0 hW => ?_⟩⟩
 have q := (qq hin).2 hb
 refine ⟨_, rfl, a, as, rs, m, rfl, s1.seq hA, hR.same s1, hV, fun r hr z => absurd (hin r hr) z, fun _ => ⟨fun z => absurd hb z, fun _ N' S' Ws hSW sh H2 ss s2 hsh0 hSh hF2 => ?_⟩⟩
 obtain ⟨e1, e2⟩ := hSW.near.one hN
 subst e1 e2
 have ⟨ps, eT, hFd, hSp, hFr, hS14, hT12⟩ := hN
 have hT0 := hFr.pos
 have hwl := hSW.len
 have hsl : ss.length = rs.length := by rw [Paired.length hF2]; unfold frT; rw [List.length_map, hwl]
 have s12 := s1.trans s2
 have hW2 := s2 _ _ hW
 refine ⟨sh, rfl, ⟨_, SqL.of hSh⟩, fun nl hnl => ?_⟩
 refine jK (xs := ss.map V.ref) (fun k => decide (Ws.getD k 0 ≠ 0)) (fun j => .int (j : Nat)) (SqL.of hSh) (by rw [List.length_map]; exact Nat.le_of_lt (aN (by omega))) hnl ?_ ?_
 ·rintro i x T0 H3 R R' hx s3 hT0' h1 h2
  obtain ⟨A, hA1, rfl⟩ := aS hx
  obtain ⟨wv, hw1, hw2⟩ := fY hF2 hA1
  have hg : Ws.getD i 0 = wv := by rw [List.getD_eq_getElem?_getD, hw1]; rfl
  have sT := Same.new hT0' (.tup [.int (i : Nat), .ref A])
  refine ⟨T0, _, rfl, SqT.of aC, rfl, _, _, rfl, _, _, rfl, rfl, c6 (n := 2) rfl, ?_⟩
  refine ⟨_, rfl, (by show 2 <= sizeLine; decide), fun c hc => ?_⟩
  have tc := Same.new hc (.tup [.int 0, .int 1])
  have hno := share_no (w := wv) hT0
  refine ⟨A, c, [aL wv N, aI wv N], [0, 1], rfl, rfl, SqT.of ((s3.trans (sT.trans tc)) _ _ hw2), SqT.of aC, _, rfl, ?_⟩
  by_cases z : wv = 0
  ·rw [decide_eq_true (hno.mpr z)]
   exact eD (h2 (by rw [hg]; simpa using z) _ tc)
  ·rw [decide_eq_false (fun y => z (hno.mp y))]
   exact iI ⟨_, rfl, h1 (by rw [hg]; simpa using z) _ tc⟩
 rintro H3 s3 hN3
 rw [List.length_map, hsl] at hN3
 have hN3 : H3 nl = some (.lst ((i8 rs.length Ws).map fun (k : Nat) => V.int (k : Int))) := hN3
 have hk0 : ∀ k ∈ i8 rs.length Ws, k < rs.length := fun k hk => shareK_lt hk
 have hl0 : (i8 rs.length Ws).length <= 20 := Nat.le_trans (shareK_len _ _) hrl
 generalize eks : i8 rs.length Ws = ks0 at *
 refine ⟨_, rfl, nl, _, rfl, .inl (SqL.of hN3), fun c0 hc0 => ?_⟩
 have t4 := Same.new hc0 (.lst (ks0.map fun (k : Nat) => V.int (k : Int)))
 have hC0 : upd H3 c0 (.lst (ks0.map fun (k : Nat) => V.int (k : Int))) c0 = some (.lst (ks0.map fun (k : Nat) => V.int (k : Int))) := aC
 have s14 := s12.trans (s3.trans t4)
 have hN4 := t4 _ _ hN3
 have hW4 := (s3.trans t4) _ _ hW2
 generalize upd H3 c0 (.lst (ks0.map fun (k : Nat) => V.int (k : Int))) = H4 at *
 refine ⟨c0, rfl, ⟨_, SqL.of hC0⟩, ?_⟩
 refine dO (xs := ks0.map fun (k : Nat) => V.int (k : Int)) (fun i σ H' => ∃ (nl : Addr) (cur : List Nat) (v3 v4 : Option V), σ = [some (.ref a), some (.ref w), some (.ref nl), v3, v4] /\ Same H4 H' /\ H nl = none /\ H' nl = some (.lst (cur.map fun (k : Nat) => V.int (k : Int))) /\ (∀ k ∈ cur, k < rs.length) /\ cur.length <= 20)
  ⟨nl, ks0, none, none, rfl, Same.refl _, s12.free hnl, hN4, hk0, hl0⟩ (fun i σ H' _ ⟨_, _, _, _, _, s, _⟩ => SqL.of (s _ _ hC0)) ?_ ?_
 ·rintro i x σ H5 hx ⟨nl, cur, v3, v4, rfl, s5, hnl0, hNl, hck, hcl⟩
  obtain ⟨k, hk, rfl⟩ := aS (g := fun n : Nat => V.int (n : Int)) hx
  have s15 := s14.trans s5
  refine ⟨_, rfl, nl, rfl, ⟨_, SqL.of hNl⟩, fun D hD => ?_⟩
  refine dP (xs := cur.map fun (k : Nat) => V.int (k : Int)) (fun j => decide (cur.getD j 0 ≠ k)) (fun j => .int ((cur.getD j 0 : Nat) : Int)) (SqL.of hNl) (by rw [List.length_map]; exact Nat.le_of_lt (aN (by omega))) hD ?_ ?_
  ·intro j y H6 R R' hy s6 h1 h2
   obtain ⟨o, ho, rfl⟩ := aS (g := fun n : Nat => V.int (n : Int)) hy
   have hg : cur.getD j 0 = o := by rw [List.getD_eq_getElem?_getD, ho]; rfl
   refine ⟨wk1 rfl, _, rfl, _, rfl, rfl, _, rfl, ?_⟩
   refine oP (fun c => ?_) (fun c => ?_)
   ·have c1 : o ≠ k := fun y => c (by rw [y])
    refine ⟨_, rfl, ?_⟩
    have := h1 (by rw [hg]; simpa using c1) H6 (Same.refl _)
    rw [hg] at this
    exact this
   ·have c1 : (o : Int) = (k : Int) := by injection c
    exact h2 (by rw [hg]; simp; omega) _ (Same.refl _)
  intro H6 s6 hD6
  rw [List.length_map, picked_filter 0 (fun o : Nat => V.int (o : Int)) (fun o => decide (o ≠ k)) cur] at hD6
  have s16 := s15.trans s6
  have ho : ∀ j ∈ outK k cur, j < rs.length := fun j hj => hck j (List.mem_filter.mp hj).1
  refine ⟨_, rfl, _, rfl, _, rfl, a, D, w, as, rs, m, outK k cur, _, _, rfl, s16.seq hA, hR.same s16, hV, hin, hD6, ho, Nat.le_trans (List.length_filter_le _ _) hcl, (s5.trans s6) _ _ hW4, fun H7 r7 s7 => ⟨_, rfl, iteB (fun _ => ⟨_, rfl, ?_⟩) (fun _ => ?_)⟩⟩
  ·refine ⟨D, outK k cur, _, _, rfl, s5.trans (s6.trans s7), s15.free hD, s7 _ _ hD6, ho, Nat.le_trans (List.length_filter_le _ _) hcl⟩
  ·refine ⟨nl, cur, _, _, rfl, s5.trans (s6.trans s7), hnl0, (s6.trans s7) _ _ hNl, hck, hcl⟩
 ·rintro σ H5 ⟨nl, cur, v3, v4, rfl, s5, hnl0, hNl, hck, hcl⟩
  exact ⟨_, rfl, q nl H5 (s14.trans s5)⟩
end
end Mw
namespace Mw
open PySem L2
section
variable {P : Program} {w : World} {K : PySem.W.Frag} {mg : Str -> Option Value} {base : Heap} {f : Addr} {fd : FuncData} {nf C ns : Addr} {C_Corral X_NoFraction X_NoSide X_MendError X_OneSide X_NoPoint X_NoRow X_NotParted X_NoTable X_NoText X_TooMany X_WrongBook : Addr}
theorem oE : FnScope ["_law_script", "_law_k"] ["_law_script", "_law_k"] (aG (top 51)) := ⟨rfl, rfl, rfl, by decide +kernel, rfl, by decide +kernel, by decide +kernel⟩
theorem ok__law_cell_at (F : Fun K "_law_cell_at" "_law_cell_at" (top 51) f fd) (T : Txt BN mg) : FnOk P w K mg base CX0 1 f fd ["_law_script", "_law_k"] (spCell K) := by
 refine F.ok oE (fun vs H Q E h => ?_) (fun cdv A outer s H vs Q E hr h => ?_)
 ·obtain ⟨a, ns, k, rfl, _⟩ := h
  rfl
 obtain ⟨a, ns, k, rfl, hA, hk, q⟩ := h
 refine ⟨_, (aD (b8 (bB oN (pv 1) (aY (cZ (K := K) rfl) rfl (T.nb "len" (by decide)) (by decide +kernel) (aA (pv 0) aB)) (bA _)) (aH (aU (bC (bE (K := K) rfl) (pv 0) (pv 1) (fun _ _ => rfl)))) bJ)
   (aH (aU aE))), ?_⟩
 refine ⟨_, rfl, _, rfl, a, _, rfl, .inl hA, _, _, rfl, rfl, _, rfl, ?_⟩
 refine c9 (fun hlt => ?_) (fun _ => ?_)
 ·rw [List.length_map] at hlt
  exact ⟨_, rfl, _, rfl, a, _, _, _, rfl, rfl, hA, at_cell hk hlt, q⟩
 ·rename_i hge
  rw [List.length_map] at hge
  rw [cell_out hk hge] at q
  exact q
end
end Mw
namespace Mw
open PySem L2
section
variable {P : Program} {w : World} {K : PySem.W.Frag} {mg : Str -> Option Value} {base : Heap} {f : Addr} {fd : FuncData} {nf C ns : Addr} {C_Corral X_NoFraction X_NoSide X_MendError X_OneSide X_NoPoint X_NoRow X_NotParted X_NoTable X_NoText X_TooMany X_WrongBook : Addr}
theorem kY : FnScope ["_law_cell", "_law_k", "_law_number"] ["_law_cell", "_law_k"] (aG (top 52)) := ⟨rfl, rfl, rfl, by decide +kernel, rfl, by decide +kernel, by decide +kernel⟩
theorem ok__law_mixed (F : Fun K "_law_mixed" "_law_mixed" (top 52) f fd) (T : Txt BN mg) : FnOk P w K mg base CX0 1 f fd ["_law_cell", "_law_k"] spMixed := by
 refine F.ok kY (fun vs H Q E h => ?_) (fun cdv A outer s H vs Q E hr h => ?_)
 ·obtain ⟨c, k, rfl, _⟩ := h
  rfl
 obtain ⟨c, k, rfl, h0, h1, q⟩ := h
 refine ⟨_, (aD (aP (i := 2) kY.nd rfl (Or.inl rfl) (aJ cL (aJ bK (aJ cB (aJ cB (aJ cB (aJ cL (pv 0) (aJ op_pow aE aE)) (aJ bK (aJ bK aE (pv 1)) (pv 1))) (aJ bK aE (pv 1))) aE) aE) aE))
   (aH (aU (aJ cL (aJ cB (aJ cB (aJ bK (pv 2) aE) (aJ bK aE (pv 1))) aE) aE)))), ?_⟩
 have hc0 : 0 <= c % 10 ^ 30 := Int.emod_nonneg _ (by decide)
 have hc1 : c % 10 ^ 30 < 1000000000000000000000000000000 := Int.lt_of_lt_of_le (Int.emod_lt_of_pos _ (by decide)) (Int.le_of_eq e30)
 have hkk : 7919 * k * k <= 7919 * 1048576 * 1048576 := by
  have h3 : k * k <= 1048576 * 1048576 := Int.mul_le_mul (by omega) (by omega) h0 (by decide)
  rw [Int.mul_assoc]; omega
 have hkk0 : 0 <= 7919 * k * k := Int.mul_nonneg (by omega) h0
 have m0 := Int.emod_nonneg ((c % 10 ^ 30 + 7919 * k * k + 13 * k + 5) * 48271) (show (2147483647 : Int) ≠ 0 by decide)
 have m1 := Int.emod_lt_of_pos ((c % 10 ^ 30 + 7919 * k * k + 13 * k + 5) * 48271) (show (0 : Int) < 2147483647 by decide)
 refine ⟨_, rfl, _, _, rfl, rfl, ⟨by decide, by decide, by decide⟩, _, _, rfl, rfl, (by show (0 : Int) < 10 ^ 30; decide), _, rfl, _, _, rfl, rfl, iQ (by decide) (by decide) (by omega) (by omega), _, rfl, _, _, rfl, rfl, iQ (by show _ < 7919 * k; omega) (by show 7919 * k < _; omega) (by omega) (by omega), _, _, rfl, rfl, _, rfl, _, _, rfl, rfl, iQ (by decide) (by decide) (by omega) (by omega), _, _, rfl, rfl, _, _, rfl, rfl, _, _, rfl, rfl, ?_, _, _, rfl, rfl, (by show (0 : Int) < 2147483647; decide), ?_⟩
 ·refine ⟨200, by decide, ?_, ?_⟩
  ·show (c % 10 ^ 30 + 7919 * k * k + 13 * k + 5).natAbs < 2 ^ 200
   have e : (2 : Nat) ^ 200 = 1606938044258990275541962092341162602522202993782792835301376 := by decide
   clear m0 m1
   generalize c % 10 ^ 30 = z at *
   generalize 7919 * k * k = y at *
   omega
  ·show (48271 : Int).natAbs < 2 ^ 200
   decide
 refine ⟨_, rfl, _, _, rfl, rfl, iQ (by show _ < _ % 2147483647; omega) (by show _ % 2147483647 < _; omega) (by decide) (by decide), _, rfl, _, _, rfl, rfl, iQ (by decide) (by decide) (by omega) (by omega), _, _, rfl, rfl, _, _, rfl, rfl, _, _, rfl, rfl, (by show (0 : Int) < 2147483629; decide), ?_⟩
 exact q
end
end Mw
namespace Mw
open PySem L2
section
variable {P : Program} {w : World} {K : PySem.W.Frag} {mg : Str -> Option Value} {base : Heap} {f : Addr} {fd : FuncData} {nf C ns : Addr} {C_Corral X_NoFraction X_NoSide X_MendError X_OneSide X_NoPoint X_NoRow X_NotParted X_NoTable X_NoText X_TooMany X_WrongBook : Addr}
theorem eK : FnScope ["_law_cell", "_law_most", "_law_many", "_law_way", "_law_found", "_law_left", "_law_k"] ["_law_cell", "_law_most", "_law_many", "_law_way"] (aG (top 53)) := ⟨rfl, rfl, rfl, by decide +kernel, rfl, by decide +kernel, by decide +kernel⟩
theorem ok__law_draws (F : Fun K "_law_draws" "_law_draws" (top 53) f fd) (T : Txt BN mg) (c__law_mixed : Cal P w K mg base 1 "_law_mixed" ["_law_cell", "_law_k"] spMixed) : FnOk P w K mg base CX0 2 f fd ["_law_cell", "_law_most", "_law_many", "_law_way"] (spDraws K) := by
 refine F.ok eK (fun vs H Q E h => ?_) (fun cdv A outer s H vs Q E hr h => ?_)
 ·obtain ⟨c, m, n, y, rfl, _⟩ := h
  rfl
 obtain ⟨c, m, n, y, rfl, hm, hB, hn0, hn1, q⟩ := h
 refine ⟨_, (aD (aP (i := 4) eK.nd rfl (Or.inl rfl) (bO aB))
   (aD (aP (i := 5) eK.nd rfl (Or.inl rfl) (aY nU rfl (T.nb "abs" (by decide)) (by decide +kernel) (aA (pv 0) aB)))
   (aD (cI PassesOwn.never rfl (jQ rfl (T.nb "range" (by decide)) (aA (pv 2) aB)) (aM (i := 6) eK.nd rfl (Or.inl rfl)) (aH (b8 (PW.pt (pw_and (bB dH (pv 3) aE (bA _)) (pH (bB mO (pv 5) aE (bA _))))) (aD (cE (fI PySem.F.plainAttrs_list PySem.F.slot_list_append PySem.F.type_list_append cX (pv 4) (aA (aJ cL (pv 5) (pv 1)) aB)))
   (aH (aP (i := 5) eK.nd rfl (Or.inl rfl) (aJ cA (pv 5) (pv 1))))) (aH (cE (fI PySem.F.plainAttrs_list PySem.F.slot_list_append PySem.F.type_list_append cX (pv 4) (aA (aJ cL (aJ cA (aR c__law_mixed (hr.mono (by decide)) rfl (aA (pv 0) (aA (pv 6) aB))) aE) (pv 1)) aB)))))))
   (aH (aU (pv 4)))))), ?_⟩
 refine ⟨(by show 0 <= sizeLine; decide), fun p hp => ?_⟩
 refine ⟨_, rfl, c, rfl, _, rfl, n, rfl, by omega, by omega, ?_⟩
 refine iF (lo := 0) (n := n.toNat) (fun i σ H' => ∃ (ds : List Int) (l : Int) (v : Option V), σ = [some (.int c), some (.int m), some (.int n), some (.int y), some (.ref p), some (.int l), v] /\ Same H H' /\ H' p = some (.lst (ds.map V.int)) /\ ds.length = i /\ ∀ d ∈ ds, 0 <= d /\ d < m)
  ⟨[], _, none, rfl, Same.new hp _, aC, rfl, fun _ h => absurd h (by simp)⟩ ?_ ?_
 ·rintro i σ H' hi ⟨ds, l, v, rfl, sm, hl, hlen, hd⟩
  have add : ∀ (d l' : Int), 0 <= d /\ d < m -> ∃ (ds' : List Int) (l2 : Int) (v : Option V), [some (V.int c), some (.int m), some (.int n), some (.int y), some (.ref p), some (.int l'), some (.int (0 + (i : Int)))] = [some (.int c), some (.int m), some (.int n), some (.int y), some (.ref p), some (.int l2), v] /\
    Same H (upd H' p (.lst (ds.map V.int ++ [.int d]))) /\ upd H' p (.lst (ds.map V.int ++ [.int d])) p = some (.lst (ds'.map V.int)) /\ ds'.length = i + 1 /\ ∀ d ∈ ds', 0 <= d /\ d < m := fun d l' h => by
   refine ⟨ds ++ [d], l', _, rfl, sm.upd_old hp, ?_, by rw [List.length_append, hlen]; rfl, fun x hx => ?_⟩
   ·rw [aC, List.map_append]; rfl
   ·rcases List.mem_append.mp hx with z | z
    ·exact hd x z
    ·rw [List.mem_singleton.mp z]; exact h
  have hsz : (ds.map V.int).length < sizeLine := by rw [List.length_map, hlen]; exact aN (by omega)
  have other : ∀ z : Int, 0 <= z % m /\ z % m < m := fun z => ⟨Int.emod_nonneg _ (by omega), Int.emod_lt_of_pos _ hm⟩
  refine ⟨_, rfl, rfl, _, rfl, ?_⟩
  refine c9 (fun _ => ?_) (fun _ => ?_)
  ·refine ⟨_, rfl, _, _, rfl, rfl, _, rfl, ?_⟩
   refine c9 (fun _ => ?_) (fun _ => ?_)
   ·refine ⟨_, rfl, .inl ⟨rfl, _, SqL.of hl⟩, _, rfl, _, rfl, _, _, rfl, rfl, hm, p, _, _, rfl, rfl, hl, hsz, ?_⟩
    refine ⟨_, rfl, _, rfl, _, _, rfl, rfl, ⟨hm, hB⟩, ?_⟩
    exact add _ _ (other _)
   ·refine ⟨_, rfl, .inl ⟨rfl, _, SqL.of hl⟩, _, rfl, _, rfl, c, _, rfl, (by omega), (by omega), _, _, rfl, rfl, fX (by decide) (by decide), _, rfl, _, _, rfl, rfl, hm, p, _, _, rfl, rfl, hl, hsz, ?_⟩
    exact add _ _ (other _)
  ·refine ⟨_, rfl, .inl ⟨rfl, _, SqL.of hl⟩, _, rfl, _, rfl, c, _, rfl, (by omega), (by omega), _, _, rfl, rfl, fX (by decide) (by decide), _, rfl, _, _, rfl, rfl, hm, p, _, _, rfl, rfl, hl, hsz, ?_⟩
   exact add _ _ (other _)
 ·rintro σ H' ⟨ds, l, v, rfl, sm, hl, hlen, hd⟩
  exact ⟨_, rfl, q p H' ds hp sm hl hlen hd⟩
end
end Mw
namespace Mw
open PySem L2
section
variable {P : Program} {w : World} {K : PySem.W.Frag} {mg : Str -> Option Value} {base : Heap} {f : Addr} {fd : FuncData} {nf C ns : Addr} {C_Corral X_NoFraction X_NoSide X_MendError X_OneSide X_NoPoint X_NoRow X_NotParted X_NoTable X_NoText X_TooMany X_WrongBook : Addr}
theorem sc__law_point : FnScope ["_law_draws_here", "_law_far"] ["_law_draws_here", "_law_far"] (aG (top 54)) := ⟨rfl, rfl, rfl, by decide +kernel, rfl, by decide +kernel, by decide +kernel⟩
theorem ok__law_point (F : Fun K "_law_point" "_law_point" (top 54) f fd) (T : Txt BN mg) : FnOk P w K mg base CX0 1 f fd ["_law_draws_here", "_law_far"] (spPointW K) := by
 refine F.ok sc__law_point (fun vs H Q E h => ?_) (fun cdv A outer s H vs Q E hr h => ?_)
 ·obtain ⟨a, ds, f, rfl, _⟩ := h
  rfl
 obtain ⟨a, ds, f, rfl, hA, hl, q⟩ := h
 refine ⟨_, (aD (b8 (fL (pv 1)) (aH (aU (bY (d0 (K := K) rfl) rfl (T.nb "tuple" (by decide)) (by decide +kernel) (aA (bQ (sc := aG (top 54)) (N := ["_law_draws_here", "_law_far"]) (NB := ["_law_draw"]) (fr := [none]) rfl (by decide +kernel) (bD (pv 0)) (fun _ _ _ _ => (aM (i := 0) (show (["_law_draw"] : List Str).Nodup by decide +kernel) rfl (Or.inl rfl))) (fun _ _ _ _ => .nil) (fun _ _ _ _ => (aJ fQ (aJ cL (pv 0) aE) aE))) aB)))) bJ)
   (aH (aU (bY (d0 (K := K) rfl) rfl (T.nb "tuple" (by decide)) (by decide +kernel) (aA (bQ (sc := aG (top 54)) (N := ["_law_draws_here", "_law_far"]) (NB := ["_law_draw"]) (fr := [none]) rfl (by decide +kernel) (bD (pv 0)) (fun _ _ _ _ => (aM (i := 0) (show (["_law_draw"] : List Str).Nodup by decide +kernel) rfl (Or.inl rfl))) (fun _ _ _ _ => .nil) (fun _ _ _ _ => (aJ fQ (aJ cL (pv 0) aE) aE))) aB))))), ?_⟩
 refine ⟨_, rfl, _, rfl, ?_⟩
 refine ite2 (fun _ => ?_) (fun _ => ?_)
 ·refine ⟨_, rfl, a, rfl, ⟨_, hA⟩, fun D hD => ?_⟩
  refine aZ (xs := ds.map V.int) (fun _ j y => ∃ x : Int, y = V.int x /\ (-1000 <= x /\ x <= 1000)) (fun _ _ _ _ _ h => h) hA (by rw [List.length_map]; exact Nat.le_of_lt (aN hl)) hD ?_ ?_
  ·intro j x H6 R hx s6 _ r6
   obtain ⟨d, hd, rfl⟩ := aS hx
   exact ⟨c6 (n := 1) rfl, _, rfl, _, _, rfl, rfl, (by show (0 : Int) < 2001; decide), _, _, rfl, rfl, r6 _ _ (Same.refl _) ⟨_, rfl, by have := Int.emod_nonneg d (show (2001 : Int) ≠ 0 by decide); omega, by have := Int.emod_lt_of_pos d (show (0 : Int) < 2001 by decide); omega⟩⟩
  intro ys H5 s5 hL5 hyl hys
  obtain ⟨xs, rfl, hxs⟩ := kD hys
  rw [List.length_map, List.length_map] at hyl
  refine ⟨D, _, rfl, .inl ⟨SqL.of hL5, fun u hu => ?_⟩⟩
  exact q u _ xs (s5.trans (Same.new hu _)) (s5.free hu) aC hyl hxs
 ·refine ⟨_, rfl, a, rfl, ⟨_, hA⟩, fun D hD => ?_⟩
  refine aZ (xs := ds.map V.int) (fun _ j y => ∃ x : Int, y = V.int x /\ (-1000 <= x /\ x <= 1000)) (fun _ _ _ _ _ h => h) hA (by rw [List.length_map]; exact Nat.le_of_lt (aN hl)) hD ?_ ?_
  ·intro j x H6 R hx s6 _ r6
   obtain ⟨d, hd, rfl⟩ := aS hx
   exact ⟨c6 (n := 1) rfl, _, rfl, _, _, rfl, rfl, (by show (0 : Int) < 9; decide), _, _, rfl, rfl, r6 _ _ (Same.refl _) ⟨_, rfl, by have := Int.emod_nonneg d (show (9 : Int) ≠ 0 by decide); omega, by have := Int.emod_lt_of_pos d (show (0 : Int) < 9 by decide); omega⟩⟩
  intro ys H5 s5 hL5 hyl hys
  obtain ⟨xs, rfl, hxs⟩ := kD hys
  rw [List.length_map, List.length_map] at hyl
  refine ⟨D, _, rfl, .inl ⟨SqL.of hL5, fun u hu => ?_⟩⟩
  exact q u _ xs (s5.trans (Same.new hu _)) (s5.free hu) aC hyl hxs
end
end Mw
namespace Mw
open PySem L2
section
variable {P : Program} {w : World} {K : PySem.W.Frag} {mg : Str -> Option Value} {base : Heap} {f : Addr} {fd : FuncData} {nf C ns : Addr} {C_Corral X_NoFraction X_NoSide X_MendError X_OneSide X_NoPoint X_NoRow X_NotParted X_NoTable X_NoText X_TooMany X_WrongBook : Addr}
theorem fA : FnScope ["_law_point_here", "_law_weights", "_law_draw", "_law_kind", "_law_total", "_law_one", "_law_weight"] ["_law_point_here", "_law_weights", "_law_draw", "_law_kind"] (aG (top 55)) := ⟨rfl, rfl, rfl, by decide +kernel, rfl, by decide +kernel, by decide +kernel⟩
theorem ok__law_side (F : Fun K "_law_side" "_law_side" (top 55) f fd) (T : Txt BN mg) : FnOk P w K mg base CX0 1 f fd ["_law_point_here", "_law_weights", "_law_draw", "_law_kind"] (spSideW K) := by
 refine F.ok fA (fun vs H Q E h => ?_) (fun cdv A outer s H vs Q E hr h => ?_)
 ·obtain ⟨a, b, xs, ws, d, k, rfl, _⟩ := h
  rfl
 obtain ⟨a, b, xs, ws, d, k, rfl, hA, hB, hne, hx, hw, q⟩ := h
 refine ⟨_, (aD (b8 (bB dH (pv 3) aE (bA _)) (aH (aU (aJ cL (pv 2) aE))) bJ)
   (aD (aP (i := 4) fA.nd rfl (Or.inl rfl) (bC (bE (K := K) rfl) (pv 1) (gT eZ aE) (fun _ _ => rfl)))
   (aD (cI PassesOwn.never rfl (fN rfl (T.nb "zip" (by decide)) (aA (pv 0) (aA (pv 1) aB))) (cG (K := K) (n := 2) rfl rfl (aW (aM (i := 5) fA.nd rfl (Or.inl rfl)) (aW (aM (i := 6) fA.nd rfl (Or.inl rfl)) cF))) (aH (aP (i := 4) fA.nd rfl (Or.inl rfl) (aJ cB (pv 4) (aJ bK (pv 5) (pv 6))))))
   (aD (b8 (PW.pt (pw_and (bB dH (pv 3) aE (bA _)) (pH (bB dH (aJ cL (pv 2) aE) aE (bA _))))) (aH (aU (bY gQ rfl (T.nb "int" (by decide)) (by decide +kernel) (aA (fH op_le (pv 4) aE (bA _)) aB)))) bJ)
   (aH (aU (bY gQ rfl (T.nb "int" (by decide)) (by decide +kernel) (aA (fH mO (pv 4) aE (bA _)) aB)))))))), ?_⟩
 refine ⟨_, rfl, rfl, _, rfl, ?_⟩
 refine c9 (fun z => ?_) (fun z => ?_)
 ·exact ⟨_, rfl, _, _, rfl, rfl, (by show (0 : Int) < 2; decide), q _ H ⟨Int.emod_nonneg _ (by decide), Int.emod_lt_of_pos _ (by decide)⟩ (Same.refl _)⟩
 obtain ⟨us, c, rfl⟩ : ∃ us c, ws = us ++ [c] := ⟨ws.dropLast, ws.getLast hne, (List.dropLast_concat_getLast hne).symm⟩
 refine ⟨_, rfl, _, rfl, b, _, _, _, rfl, rfl, hB, at_lastW, ?_⟩
 refine ⟨_, rfl, _, rfl, true, false, a, b, rfl, ⟨_, hA⟩, ⟨_, hB⟩, ?_⟩
 refine kF (b1 := true) (b2 := false) (xs := xs.map V.int) (ys := (us ++ [c]).map V.int) (fun i σ H' => ∃ (t : Int) (v5 v6 : Option V), σ = [some (.ref a), some (.ref b), some (.int d), some (.int k), some (.int t), v5, v6] /\ Same H H') ⟨c, none, none, rfl, Same.refl _⟩ (fun i σ H' _ ⟨_, _, _, _, s⟩ => ⟨s.seqT hA, s.seq hB⟩) ?_ ?_
 ·rintro i x y T σ H' hx1 hy1 hT ⟨t, v5, v6, rfl, s⟩
  obtain ⟨x, hx2, rfl⟩ := aS hx1
  obtain ⟨y, hy2, rfl⟩ := aS hy1
  have b1 := hx x (List.mem_of_getElem? hx2)
  have b2 := hw y (List.mem_of_getElem? hy2)
  have sT := Same.new hT (.tup [.int x, .int y])
  refine ⟨T, _, rfl, SqT.of aC, rfl, _, _, rfl, _, _, rfl, rfl, ?_⟩
  exact ⟨_, rfl, _, rfl, _, rfl, _, _, rfl, rfl, iQ (by omega) (by omega) (by omega) (by omega), _, _, rfl, rfl, ⟨_, _, _, rfl, s.trans sT⟩⟩
 ·rintro σ H' ⟨t, v5, v6, rfl, s⟩
  refine ⟨_, rfl, rfl, _, rfl, ?_⟩
  have h01 : ∀ b : Bool, InR 2 (if b = true then 1 else 0) := fun b => by
   cases b
   ·exact ⟨by decide, by decide⟩
   ·exact ⟨by decide, by decide⟩
  refine c9 (fun _ => ?_) (fun _ => ?_)
  ·refine ⟨_, rfl, _, _, rfl, rfl, (by show (0 : Int) < 7; decide), rfl, _, rfl, ?_⟩
   refine c9 (fun _ => ?_) (fun _ => ?_)
   ·exact ⟨_, rfl, _, _, rfl, rfl, .inr ⟨_, rfl, q _ H' (h01 _) s⟩⟩
   ·exact ⟨_, rfl, _, _, rfl, rfl, .inr ⟨_, rfl, q _ H' (h01 _) s⟩⟩
  ·exact ⟨_, rfl, _, _, rfl, rfl, .inr ⟨_, rfl, q _ H' (h01 _) s⟩⟩
end
end Mw
namespace Mw
open PySem L2
section
variable {P : Program} {w : World} {K : PySem.W.Frag} {mg : Str -> Option Value} {base : Heap} {f : Addr} {fd : FuncData} {nf C ns : Addr} {C_Corral X_NoFraction X_NoSide X_MendError X_OneSide X_NoPoint X_NoRow X_NotParted X_NoTable X_NoText X_TooMany X_WrongBook : Addr}
theorem bM : FnScope ["_law_script", "_law_first", "_law_long", "_law_kind", "_law_far", "_law_many", "_law_way", "_law_weights", "_law_draws_here", "_law_rows", "_law_k", "_law_some", "_law_point_here"] ["_law_script"] (aG (top 56)) := ⟨rfl, rfl, rfl, by decide +kernel, rfl, by decide +kernel, by decide +kernel⟩
theorem ok__law_sided (F : Fun K "_law_sided" "_law_sided" (top 56) f fd) (T : Txt BN mg) (c__law_cell_at : Cal P w K mg base 1 "_law_cell_at" ["_law_script", "_law_k"] (spCell K)) (c__law_draws : Cal P w K mg base 2 "_law_draws" ["_law_cell", "_law_most", "_law_many", "_law_way"] (spDraws K)) (c__law_point : Cal P w K mg base 1 "_law_point" ["_law_draws_here", "_law_far"] (spPointW K)) (c__law_side : Cal P w K mg base 1 "_law_side" ["_law_point_here", "_law_weights", "_law_draw", "_law_kind"] (spSideW K)) : FnOk P w K mg base CX0 3 f fd ["_law_script"] (spSidedW K) := by
 refine F.ok bM (fun vs H Q E h => ?_) (fun cdv A outer s H vs Q E hr h => ?_)
 ·obtain ⟨a, ns, rfl, _⟩ := h
  rfl
 obtain ⟨a, ns, rfl, hS, q⟩ := h
 refine ⟨_, (aD (aP (i := 1) bM.nd rfl (Or.inl rfl) (aR c__law_cell_at (hr.mono (by decide)) rfl (aA (pv 0) (aA aE aB))))
   (aD (aP (i := 2) bM.nd rfl (Or.inl rfl) (aJ cB aE (aJ cL (pv 1) aE)))
   (aD (aP (i := 3) bM.nd rfl (Or.inl rfl) (aJ cL (aJ cA (pv 1) aE) aE))
   (aD (cW (aP (i := 4) bM.nd rfl (Or.inl rfl) (fH dH (aJ cL (aJ cA (pv 1) aE) aE) aE (bA _))))
   (aD (cW (aP (i := 5) bM.nd rfl (Or.inl rfl) (aJ cB aE (aJ cL (aJ cA (pv 1) aE) (bC (bE (K := K) rfl) (bO (aA aE (aA aE aB))) (bY gQ rfl (T.nb "int" (by decide)) (by decide +kernel) (aA (pv 4) aB)) (fun _ _ => rfl))))))
   (aD (cW (b8 (bB dH (aJ cL (aJ cA (pv 1) aE) aE) aE (bA _)) (aH (aP (i := 5) bM.nd rfl (Or.inl rfl) aE)) bJ))
   (aD (aP (i := 6) bM.nd rfl (Or.inl rfl) (aJ cL (aJ cA (pv 1) aE) aE))
   (aD (dU (i := 7) bM.nd rfl rfl (sc := aG (top 56)) (N := ["_law_script", "_law_first", "_law_long", "_law_kind", "_law_far", "_law_many", "_law_way", "_law_weights", "_law_draws_here", "_law_rows", "_law_k", "_law_some", "_law_point_here"]) (NB := ["_law_draw"]) (fr := [none]) rfl (by decide +kernel) (bD (aR c__law_draws (hr.mono (by decide)) rfl (aA (aR c__law_cell_at (hr.mono (by decide)) rfl (aA (pv 0) (aA aE aB))) (aA aE (aA (aJ cB (pv 2) aE) (aA (pv 6) aB)))))) (fun _ _ _ _ => (aM (i := 0) (show (["_law_draw"] : List Str).Nodup by decide +kernel) rfl (Or.inl rfl))) (fun _ _ _ _ => .nil) (fun _ _ _ _ => (aJ fQ (pv 0) aE)))
   (aD (aP (i := 8) bM.nd rfl (Or.inl rfl) (aR c__law_draws (hr.mono (by decide)) rfl (aA (aR c__law_cell_at (hr.mono (by decide)) rfl (aA (pv 0) (aA aE aB))) (aA aE (aA (aJ bK (pv 5) (aJ cB (pv 2) aE)) (aA (pv 6) aB))))))
   (aD (aP (i := 9) bM.nd rfl (Or.inl rfl) (bO aB))
   (aD (cI PassesOwn.never rfl (jQ rfl (T.nb "range" (by decide)) (aA (pv 5) aB)) (aM (i := 10) bM.nd rfl (Or.inl rfl)) (aD (aP (i := 11) bM.nd rfl (Or.inl rfl) (dZ (dY (K := K) rfl) (pv 8) (eB (aJ bK (pv 10) (aJ cB (pv 2) aE))) (eB (aJ bK (aJ cB (pv 10) aE) (aJ cB (pv 2) aE)))))
   (aD (aP (i := 12) bM.nd rfl (Or.inl rfl) (aR c__law_point (hr.mono (by decide)) rfl (aA (bQ (sc := aG (top 56)) (N := ["_law_script", "_law_first", "_law_long", "_law_kind", "_law_far", "_law_many", "_law_way", "_law_weights", "_law_draws_here", "_law_rows", "_law_k", "_law_some", "_law_point_here"]) (NB := ["_law_draw"]) (fr := [none]) rfl (by decide +kernel) (bD (dZ (dY (K := K) rfl) (pv 11) fG (eB (pv 2)))) (fun _ _ _ _ => (aM (i := 0) (show (["_law_draw"] : List Str).Nodup by decide +kernel) rfl (Or.inl rfl))) (fun _ _ _ _ => .nil) (fun _ _ _ _ => (aJ cA (pv 0) aE))) (aA (pv 4) aB))))
   (aH (cE (fI PySem.F.plainAttrs_list PySem.F.slot_list_append PySem.F.type_list_append cX (pv 9) (aA (eC (aA (pv 12) (aA (aR c__law_side (hr.mono (by decide)) rfl (aA (pv 12) (aA (pv 7) (aA (bC (bE (K := K) rfl) (pv 11) (pv 2) (fun _ _ => rfl)) (aA (pv 3) aB))))) aB))) aB)))))))
   (aD (cW (b8 (bB dH (aJ cL (aJ cA (pv 1) aE) aE) aE (bA _)) (aH (cE (fI PySem.F.plainAttrs_list PySem.F.slot_list_append PySem.F.type_list_append cX (pv 9) (aA (eC (aA (bC (b7 (K := K) rfl) (bC (bE (K := K) rfl) (pv 9) aE (fun _ _ => rfl)) aE (fun _ _ => rfl)) (aA (aJ fQ aE (bC (b7 (K := K) rfl) (bC (bE (K := K) rfl) (pv 9) aE (fun _ _ => rfl)) aE (fun _ _ => rfl))) aB))) aB)))) bJ))
   (aH (aU (pv 9))))))))))))))), ?_⟩
 refine ⟨_, rfl, a, ns, 0, rfl, hS, by decide, ?_⟩
 generalize mT ns (Int.toNat 0) = f0
 refine ⟨_, rfl, _, _, rfl, rfl, (by show (0 : Int) < 4; decide), _, _, rfl, rfl, ?_⟩
 refine ⟨_, rfl, _, _, rfl, rfl, fX (by decide) (by decide), _, _, rfl, rfl, (by show (0 : Int) < 3; decide), ?_⟩
 obtain ⟨m, em⟩ : ∃ m : Nat, 1 + f0 % 4 = (m : Int) := ⟨(1 + f0 % 4).toNat, by omega⟩
 have hm0 : 0 < m := by omega
 have hm4 : m <= 4 := by omega
 refine ⟨fun σ H' => ∃ (kd : Int) (fr : Bool), σ = [some (.ref a), some (.int f0), some (.int m), some (.int kd), some (.bl fr), none, none, none, none, none, none, none, none] /\ H' = H, ?_, ?_⟩
 ·refine ⟨_, rfl, _, _, rfl, rfl, fX (by decide) (by decide), _, _, rfl, rfl, (by show (0 : Int) < 8; decide), rfl, ?_⟩
  refine ⟨f0 / 4 % 3, decide (V.int (f0 / 12 % 8) = V.int 1), ?_, rfl⟩
  show [some (V.ref a), some (.int f0), some (.int (1 + f0 % 4)), some (V.int (f0 / 4 % 3)), some (V.bl (decide (V.int (f0 / 12 % 8) = V.int 1))), none, none, none, none, none, none, none, none] = _
  rw [em]
 rintro σ H0 ⟨kd, fr, rfl, e0⟩
 subst e0
 refine ⟨fun σ H' => ∃ n : Nat, 2 <= n /\ n <= 16 /\ σ = [some (.ref a), some (.int f0), some (.int m), some (.int kd), some (.bl fr), some (.int n), none, none, none, none, none, none, none] /\ Same H0 H', ?_, ?_⟩
 ·refine ⟨_, rfl, _, _, rfl, rfl, fX (by decide) (by decide), (by show 2 <= sizeLine; decide), fun p1 hp1 => ?_⟩
  obtain ⟨x, hx, hat⟩ := at_mem (ds := [9, 4]) (z := if fr = true then 1 else 0) (by cases fr <;> decide) (by cases fr <;> decide)
  have hx2 : x = 9 \/ x = 4 := by simpa using hx
  have hx0 : 0 < x := by omega
  refine ⟨_, rfl, .inr ⟨_, rfl, p1, _, _, _, rfl, rfl, SqL.of aC, hat, _, _, rfl, rfl, hx0, _, _, rfl, rfl, ?_⟩⟩
  have h1 := Int.emod_nonneg (f0 / 96) (show x ≠ 0 by omega)
  have h2 := Int.emod_lt_of_pos (f0 / 96) hx0
  refine ⟨(2 + f0 / 96 % x).toNat, by omega, by omega, ?_, Same.new hp1 _⟩
  rw [show ((2 + f0 / 96 % x).toNat : Int) = 2 + f0 / 96 % x by omega]; rfl
 rintro σ H1 ⟨n1, hn1, hn2, rfl, s1⟩
 refine ⟨fun σ H' => ∃ n : Nat, 2 <= n /\ n <= 16 /\ σ = [some (.ref a), some (.int f0), some (.int m), some (.int kd), some (.bl fr), some (.int n), none, none, none, none, none, none, none] /\ H' = H1, ?_, ?_⟩
 ·refine ⟨_, rfl, _, _, rfl, rfl, fX (by decide) (by decide), _, _, rfl, rfl, (by show (0 : Int) < 16; decide), rfl, _, rfl, ?_⟩
  refine c9 (fun _ => ?_) (fun _ => ?_)
  ·exact ⟨16, by decide, by decide, rfl, rfl⟩
  ·exact ⟨n1, hn1, hn2, rfl, rfl⟩
 clear hn1 hn2 n1
 rintro σ H2 ⟨n, hn1, hn2, rfl, e2⟩
 subst e2
 refine ⟨_, rfl, _, _, rfl, rfl, fX (by decide) (by decide), _, _, rfl, rfl, (by show (0 : Int) < 2; decide), ?_⟩
 refine ⟨_, rfl, a, ns, 1, rfl, s1.seq hS, by decide, _, rfl, _, _, rfl, rfl, _, rfl, _, 7, (m : Int) + 1, (f0 / 864 % 2), rfl, by decide, dW (by decide) (by decide) (by decide), by omega, by omega, fun w0 H3 ds0 hw0 s3 hW0 hd0 hb0 => ?_⟩
 refine ⟨w0, rfl, ⟨_, SqL.of hW0⟩, fun w hw => ?_⟩
 refine aZ (xs := ds0.map V.int) (fun _ j y => ∃ x : Int, y = V.int x /\ (-1000 <= x /\ x <= 1000)) (fun _ _ _ _ _ h => h) (SqL.of hW0) (by rw [List.length_map]; exact Nat.le_of_lt (aN (by omega))) hw ?_ ?_
 ·intro j x H4 R hx s4 _ r4
  obtain ⟨d, hd, rfl⟩ := aS hx
  have := hb0 d (List.mem_of_getElem? hd)
  exact ⟨c6 (n := 1) rfl, _, rfl, _, _, rfl, rfl, r4 _ _ (Same.refl _) ⟨_, rfl, by omega, by omega⟩⟩
 intro ys H4 s4 hW hyl hys
 obtain ⟨ws, rfl, hws⟩ := kD hys
 rw [List.length_map, List.length_map] at hyl
 have hwne : ws ≠ [] := fun e => by rw [e] at hyl; simp at hyl; omega
 have s14 := s1.trans (s3.trans s4)
 have hnm : n * (m + 1) <= 16 * 5 := Nat.mul_le_mul hn2 (by omega)
 have enm : (n : Int) * ((m : Int) + 1) = ((n * (m + 1) : Nat) : Int) := by rw [Int.natCast_mul]; rfl
 refine ⟨_, rfl, a, ns, 3, rfl, s14.seq hS, by decide, _, rfl, _, rfl, _, _, rfl, rfl, _, _, rfl, rfl, iQ (by omega) (by omega) (by omega) (by omega), _, rfl, _, 4002, (n : Int) * ((m : Int) + 1), (f0 / 864 % 2), rfl, by decide, dW (by decide) (by decide) (by decide), by omega, by omega, fun dd H5 ds hdd s5 hDD hdl hdb => ?_⟩
 rw [enm, Int.toNat_natCast] at hdl
 refine ⟨(by show 0 <= sizeLine; decide), fun p hp => ?_⟩
 have s45 := s14.trans s5
 have hW5 := s5 _ _ hW
 have t6 := Same.new hp (.lst [])
 refine ⟨_, rfl, (n : Int), rfl, by omega, by omega, ?_⟩
 refine iF (lo := 0) (n := ((n : Nat) : Int).toNat) (fun i σ H' => ∃ (as : List Addr) (rs : List (List Int × Int)) (v10 v11 v12 : Option V), σ = [some (.ref a), some (.int f0), some (.int m), some (.int kd), some (.bl fr), some (.int n), some (.int (f0 / 864 % 2)), some (.ref w), some (.ref dd), some (.ref p), v10, v11, v12] /\ Same H5 H' /\ H' p = some (.lst (as.map V.ref)) /\ RowsAt K H' as rs /\ rs.length = i /\
   (∀ r ∈ rs, r.1.length = m) /\ (∀ r ∈ rs, ∀ x ∈ r.1, -1000 <= x /\ x <= 1000) /\ (∀ r ∈ rs, InR 2 r.2))
  ⟨[], [], none, none, none, rfl, t6, aC, .nil, rfl, fun _ h => absurd h (by simp), fun _ h => absurd h (by simp), fun _ h => absurd h (by simp)⟩ ?_ ?_
 ·rintro i σ H6 hi ⟨as, rs, v10, v11, v12, rfl, s6, hP, hR, hrl, hr1, hr2, hr3⟩
  rw [Int.toNat_natCast] at hi
  have hal : as.length = rs.length := Paired.length hR
  have hi1 : (i + 1) * (m + 1) <= n * (m + 1) := Nat.mul_le_mul_right _ (by omega)
  have e1 : (0 + (i : Int)) * ((m : Int) + 1) = ((i * (m + 1) : Nat) : Int) := by rw [Int.zero_add, Int.natCast_mul]; rfl
  have e2 : (0 + (i : Int) + 1) * ((m : Int) + 1) = (((i + 1) * (m + 1) : Nat) : Int) := by rw [Int.zero_add, Int.natCast_mul]; rfl
  have e3 : (i + 1) * (m + 1) = i * (m + 1) + (m + 1) := Nat.succ_mul _ _
  refine ⟨_, rfl, _, rfl, _, rfl, _, _, rfl, rfl, _, _, rfl, rfl, iQ (by omega) (by omega) (by omega) (by omega), _, rfl, _, rfl, _, _, rfl, rfl, _, rfl, _, _, rfl, rfl, _, _, rfl, rfl, iQ (by show _ < 0 + (i : Int) + 1; omega) (by show 0 + (i : Int) + 1 < _; omega) (by omega) (by omega), _, rfl, dd, _, rfl, SqL.of (s6 _ _ hDD), fun p7 hp7 => ?_⟩
  rw [cut_map, e1, e2, cutI_in ds (by omega) (by omega) (by omega)]
  obtain ⟨ss, ess⟩ : ∃ ss, ss = (ds.drop (((i * (m + 1) : Nat) : Int)).toNat).take ((((i + 1) * (m + 1) : Nat) : Int) - ((i * (m + 1) : Nat) : Int)).toNat := ⟨_, rfl⟩
  rw [<- ess]
  have hsl : ss.length = m + 1 := by rw [ess, List.length_take, List.length_drop]; omega
  clear ess
  have t7 := Same.new hp7 (.lst (ss.map V.int))
  have hP7 : upd H6 p7 (.lst (ss.map V.int)) p7 = some (.lst (ss.map V.int)) := aC
  generalize upd H6 p7 (.lst (ss.map V.int)) = H7 at *
  refine ⟨_, rfl, _, rfl, (m : Int), rfl, p7, _, rfl, SqL.of hP7, fun p8 hp8 => ?_⟩
  rw [cut_map, cutI_to ss (by omega) (by omega), Int.toNat_natCast]
  have t8 := Same.new hp8 (.lst ((ss.take m).map V.int))
  have hP8 : upd H7 p8 (.lst ((ss.take m).map V.int)) p8 = some (.lst ((ss.take m).map V.int)) := aC
  generalize upd H7 p8 (.lst ((ss.take m).map V.int)) = H8 at *
  have htl : (ss.take m).length = m := by rw [List.length_take]; omega
  refine ⟨p8, rfl, ⟨_, SqL.of hP8⟩, fun D hD => ?_⟩
  refine aZ (xs := (ss.take m).map V.int) (fun _ j y => ∃ x : Int, y = V.int x /\ True) (fun _ _ _ _ _ h => h) (SqL.of hP8) (by rw [List.length_map]; exact Nat.le_of_lt (aN (by omega))) hD ?_ ?_
  ·intro j x H9 R hx s9 _ r9
   obtain ⟨d, hd, rfl⟩ := aS hx
   exact ⟨c6 (n := 1) rfl, _, rfl, _, _, rfl, rfl, fX (by decide) (by decide), r9 _ _ (Same.refl _) ⟨_, rfl, trivial⟩⟩
  intro ys H9 s9 hL9 hyl9 hys9
  obtain ⟨xs, rfl, _⟩ := kD hys9
  rw [List.length_map, List.length_map, htl] at hyl9
  refine ⟨_, rfl, D, xs, fr, rfl, SqL.of hL9, by omega, fun pt H10 pts s10 hpt hPt hptl hptb => ?_⟩
  have t610 := t7.trans (t8.trans (s9.trans s10))
  have t710 := t8.trans (s9.trans s10)
  have hat : atI (ss.map V.int) (m : Int) = some (.int (ss.getD m 0)) := pU (k := m) (by rw [List.getElem?_map, List.getD_eq_getElem?_getD, List.getElem?_eq_getElem (show m < ss.length by omega)]; rfl) rfl
  refine ⟨_, rfl, .inl ⟨rfl, _, SqL.of (t610 _ _ hP)⟩, _, rfl, _, rfl, _, rfl, _, rfl, _, rfl, p7, _, _, _, rfl, rfl, SqL.of (t710 _ _ hP7), hat, _, rfl, pt, w, pts, ws, _, kd, rfl, SqT.of hPt, SqL.of ((s6.trans t610) _ _ hW5), hwne, hptb, hws, fun sd H11 hsd s11 => ?_⟩
  refine ⟨(by show 2 <= sizeLine; decide), fun c hc => ?_⟩
  have t12 := Same.new hc (.tup [.ref pt, .int sd])
  have sA := t610.trans (s11.trans t12)
  have hPA := sA _ _ hP
  refine ⟨p, _, _, rfl, rfl, hPA, by rw [List.length_map, hal]; exact small9 (by omega), ?_⟩
  refine ⟨as ++ [c], rs ++ [(pts, sd)], _, _, _, rfl, (s6.trans sA).upd_old hp, by rw [aC, List.map_append]; rfl, ?_, by rw [List.length_append, hrl]; rfl, fun r hr => ?_, fun r hr => ?_, fun r hr => ?_⟩
  ·exact Paired.app (qD hPA (hR.same sA)) (.cons ⟨pt, gY hPA (SqT.of aC), gY hPA (SqT.of ((s11.trans t12) _ _ hPt))⟩ .nil)
  ·rcases List.mem_append.mp hr with z | z
   ·exact hr1 r z
   ·rw [List.mem_singleton.mp z]; show pts.length = m; omega
  ·rcases List.mem_append.mp hr with z | z
   ·exact hr2 r z
   ·rw [List.mem_singleton.mp z]; exact hptb
  ·rcases List.mem_append.mp hr with z | z
   ·exact hr3 r z
   ·rw [List.mem_singleton.mp z]; exact hsd
 rintro σ H6 ⟨as, rs, v10, v11, v12, rfl, s6, hP, hR, hrl, hr1, hr2, hr3⟩
 rw [Int.toNat_natCast] at hrl
 refine ⟨fun σ H' => ∃ (as : List Addr) (rs : List (List Int × Int)), σ = [some (.ref a), some (.int f0), some (.int m), some (.int kd), some (.bl fr), some (.int n), some (.int (f0 / 864 % 2)), some (.ref w), some (.ref dd), some (.ref p), v10, v11, v12] /\ Same H5 H' /\ H' p = some (.lst (as.map V.ref)) /\ RowsAt K H' as rs /\ 2 <= rs.length /\ rs.length <= 17 /\
   (∀ r ∈ rs, r.1.length = m) /\ (∀ r ∈ rs, ∀ x ∈ r.1, -1000 <= x /\ x <= 1000) /\ (∀ r ∈ rs, InR 2 r.2), ?_, ?_⟩
 ·refine ⟨_, rfl, _, _, rfl, rfl, fX (by decide) (by decide), _, _, rfl, rfl, (by show (0 : Int) < 5; decide), rfl, _, rfl, ?_⟩
  refine c9 (fun _ => ?_) (fun _ => ?_)
  ·obtain ⟨r0, hr0⟩ : ∃ r0, rs[0]? = some r0 := ⟨_, List.getElem?_eq_getElem (by omega)⟩
   obtain ⟨A, hA1, pt, hq2, hq3⟩ := paired_get' hR hr0
   have hm := List.mem_of_getElem? hr0
   have hal : as.length = rs.length := Paired.length hR
   have hat : atI (as.map V.ref) 0 = some (.ref A) := bW (j := 0) (by rw [List.getElem?_map, hA1]; rfl)
   refine ⟨_, rfl, .inl ⟨rfl, _, SqL.of hP⟩, _, rfl, p, _, _, _, rfl, rfl, SqL.of hP, hat, A, _, _, _, rfl, rfl, hq2, rfl, _, rfl, p, _, _, _, rfl, rfl, SqL.of hP, hat, A, _, _, _, rfl, rfl, hq2, rfl, _, _, rfl, rfl, (by show 2 <= sizeLine; decide), fun c hc => ?_⟩
   have t12 := Same.new hc (.tup [.ref pt, .int (1 - r0.2)])
   have hPA := t12 _ _ hP
   refine ⟨p, _, _, rfl, rfl, hPA, by rw [List.length_map, hal]; exact small9 (by omega), ?_⟩
   refine ⟨as ++ [c], rs ++ [(r0.1, 1 - r0.2)], rfl, (s6.trans t12).upd_old hp, by rw [aC, List.map_append]; rfl, ?_, by rw [List.length_append]; show 2 <= rs.length + 1; omega, by rw [List.length_append]; show rs.length + 1 <= 17; omega, fun r hr => ?_, fun r hr => ?_, fun r hr => ?_⟩
   ·exact Paired.app (qD hPA (hR.same t12)) (.cons ⟨pt, gY hPA (SqT.of aC), gY hPA (t12.seqT hq3)⟩ .nil)
   ·rcases List.mem_append.mp hr with z | z
    ·exact hr1 r z
    ·rw [List.mem_singleton.mp z]; exact hr1 r0 hm
   ·rcases List.mem_append.mp hr with z | z
    ·exact hr2 r z
    ·rw [List.mem_singleton.mp z]; exact hr2 r0 hm
   ·rcases List.mem_append.mp hr with z | z
    ·exact hr3 r z
    ·rw [List.mem_singleton.mp z]
     have h : 0 <= r0.2 /\ r0.2 < 2 := hr3 r0 hm
     show 0 <= 1 - r0.2 /\ 1 - r0.2 < 2
     omega
  ·exact ⟨as, rs, rfl, s6, hP, hR, by omega, by omega, hr1, hr2, hr3⟩
 clear hR hP s6 hrl hr1 hr2 hr3
 rintro σ H7 ⟨as, rs, rfl, s7, hP, hR, hl1, hl2, hr1, hr2, hr3⟩
 refine ⟨_, rfl, q p H7 as rs m (s45.trans s7) (s45.free hp) hP hR ⟨hm0, hm4, by omega, hr1, hr2, fun r hr => ?_⟩ (fun e => by rw [e] at hl1; simp at hl1) hr3⟩
 have h : 0 <= r.2 /\ r.2 < 2 := hr3 r hr
 exact dW (by omega) (by omega) (by decide)
end
end Mw
namespace Mw
open PySem L2
section
variable {P : Program} {w : World} {K : PySem.W.Frag} {mg : Str -> Option Value} {base : Heap} {f : Addr} {fd : FuncData} {nf C ns : Addr} {C_Corral X_NoFraction X_NoSide X_MendError X_OneSide X_NoPoint X_NoRow X_NotParted X_NoTable X_NoText X_TooMany X_WrongBook : Addr}
theorem sc__law_asked : FnScope ["_law_rows", "_law_way"] ["_law_rows", "_law_way"] (aG (top 57)) := ⟨rfl, rfl, rfl, by decide +kernel, rfl, by decide +kernel, by decide +kernel⟩
theorem ok__law_asked (F : Fun K "_law_asked" "_law_asked" (top 57) f fd) (T : Txt BN mg) (c_sides_mixture : CalX P w K mg base 8 "sides_mixture" ["rows"] (m9 K X_NoSide X_OneSide)) (c_width_square : CalX P w K mg base 9 "width_square" ["rows"] (kK K X_NoSide X_OneSide)) (c_holders : CalX P w K mg base 11 "holders" ["rows"] (nY K X_NoSide X_OneSide)) (c_parting : CalX P w K mg base 9 "parting" ["rows"] (spPartX K X_NoSide)) : FnOk P w K mg base (CXE P w) 12 f fd ["_law_rows", "_law_way"] (spAskedX K X_NoSide X_OneSide) := by
 refine F.okX sc__law_asked (fun vs H Q E h => ?_) (fun cdv A outer s H vs Q E hr h => ?_)
 ·obtain ⟨a, as, rs, m, w, rfl, _⟩ := h
  rfl
 obtain ⟨a, as, rs, m, w, rfl, hA, hR, hV, hne, hw0, hw4, hE, q⟩ := h
 refine ⟨_, (aD (b8 (bB dH (pv 1) aE (bA _)) (aH (aU (b6 c_sides_mixture (hr.mono (by decide)) rfl bZ (aA (pv 0) aB)))) bJ)
   (aD (b8 (bB dH (pv 1) aE (bA _)) (aH (aU (b6 c_width_square (hr.mono (by decide)) rfl bZ (aA (pv 0) aB)))) bJ)
   (aD (b8 (bB dH (pv 1) aE (bA _)) (aH (aU (b6 c_holders (hr.mono (by decide)) rfl bZ (aA (pv 0) aB)))) bJ)
   (aH (aU (b6 c_parting (hr.mono (by decide)) rfl bZ (aA (pv 0) aB))))))), ?_⟩
 refine ⟨_, rfl, rfl, _, rfl, ?_⟩
 refine c9 (fun z => ?_) (fun z0 => ?_)
 ·have z1 : w = 0 := by injection z
  exact ⟨_, rfl, a, as, rs, m, rfl, hA, hR, hV, hE, fun hin => ⟨fun hb => (q hin).1 hb (by omega), fun hb T S Ws _ r H' ss s _ _ _ => (q hin).2 (.inl hb) _ H' s⟩⟩
 refine ⟨_, rfl, rfl, _, rfl, ?_⟩
 refine c9 (fun z => ?_) (fun z1 => ?_)
 ·have z1 : w = 1 := by injection z
  exact ⟨_, rfl, a, as, rs, m, rfl, hA, hR, hV, hE, fun hin => ⟨fun hb => (q hin).1 hb (by omega), fun hb T S _ r H' s _ _ => (q hin).2 (.inl hb) _ H' s⟩⟩
 refine ⟨_, rfl, rfl, _, rfl, ?_⟩
 refine c9 (fun z => ?_) (fun z2 => ?_)
 ·have z1 : w = 2 := by injection z
  exact ⟨_, rfl, a, as, rs, m, rfl, hA, hR, hV, hE, fun hin => ⟨fun hb => (q hin).1 hb (by omega), fun hb r H' s => (q hin).2 (.inl hb) _ H' s⟩⟩
 ·have y0 : w ≠ 0 := fun e => z0 (by rw [e])
  have y1 : w ≠ 1 := fun e => z1 (by rw [e])
  have y2 : w ≠ 2 := fun e => z2 (by rw [e])
  exact ⟨_, rfl, a, as, rs, m, rfl, hA, hR, hV, hne, hE, fun hin v H' s => (q hin).2 (.inr (by omega)) v H' s⟩
end
end Mw
namespace Mw
open PySem L2
section
variable {P : Program} {w : World} {K : PySem.W.Frag} {mg : Str -> Option Value} {base : Heap} {f : Addr} {fd : FuncData} {nf C ns : Addr} {C_Corral X_NoFraction X_NoSide X_MendError X_OneSide X_NoPoint X_NoRow X_NotParted X_NoTable X_NoText X_TooMany X_WrongBook : Addr}
theorem dS : FnScope ["_law_caught", "_law_some", "_law_other"] ["_law_caught"] (aG (top 58)) := ⟨rfl, rfl, rfl, by decide +kernel, rfl, by decide +kernel, by decide +kernel⟩
theorem ok__law_kinds (F : Fun K "_law_kinds" "_law_kinds" (top 58) f fd) (T : Txt BN mg) (PR : Prog K mg C_Corral X_MendError X_NoFraction X_NoSide X_OneSide X_NoPoint X_NoRow X_NoTable X_NoText X_NotParted X_TooMany X_WrongBook) : FnOk P w K mg base CX0 1 f fd ["_law_caught"] (spKindsW X_NoSide X_OneSide) := by
 refine F.ok dS (fun vs H Q E h => ?_) (fun cdv A outer s H vs Q E hr h => ?_)
 ·obtain ⟨e, b, rfl, _⟩ := h
  rfl
 obtain ⟨e, b, rfl, hE0, q⟩ := h
 refine ⟨_, (aD (aP (i := 1) dS.nd rfl (Or.inl rfl) (bO aB))
   (aD (cW (b8 (fL (aY (dD (K := K) rfl) rfl (T.nb "isinstance" (by decide)) (by decide +kernel) (aA (pv 0) (aA (fP rfl PR.x_OneSide.g) aB)))) (aH (cE (fI PySem.F.plainAttrs_list PySem.F.slot_list_append PySem.F.type_list_append cX (pv 1) (aA fO aB)))) bJ))
   (aD (cW (b8 (fL (aY (dD (K := K) rfl) rfl (T.nb "isinstance" (by decide)) (by decide +kernel) (aA (pv 0) (aA (fP rfl PR.x_NoSide.g) aB)))) (aH (cE (fI PySem.F.plainAttrs_list PySem.F.slot_list_append PySem.F.type_list_append cX (pv 1) (aA fO aB)))) bJ))
   (aD (cW (cI PassesOwn.never rfl (bD (bO (aA (aY (dD (K := K) rfl) rfl (T.nb "isinstance" (by decide)) (by decide +kernel) (aA (pv 0) (aA (fP rfl PR.x_NoFraction.g) aB))) (aA (aY (dD (K := K) rfl) rfl (T.nb "isinstance" (by decide)) (by decide +kernel) (aA (pv 0) (aA (fP rfl PR.x_NoPoint.g) aB))) (aA (aY (dD (K := K) rfl) rfl (T.nb "isinstance" (by decide)) (by decide +kernel) (aA (pv 0) (aA (fP rfl PR.x_NoRow.g) aB))) aB))))) (aM (i := 2) dS.nd rfl (Or.inl rfl)) (aH (aP (i := 1) dS.nd rfl (Or.inl rfl) (aJ fB (pv 1) (aJ lR (bO (aA fO aB)) (bY gQ rfl (T.nb "int" (by decide)) (by decide +kernel) (aA (pv 2) aB))))))))
   (aD (cW (cI PassesOwn.never rfl (bD (bO (aA (aY (dD (K := K) rfl) rfl (T.nb "isinstance" (by decide)) (by decide +kernel) (aA (pv 0) (aA (fP rfl PR.x_NotParted.g) aB))) (aA (aY (dD (K := K) rfl) rfl (T.nb "isinstance" (by decide)) (by decide +kernel) (aA (pv 0) (aA (fP rfl PR.x_NoTable.g) aB))) (aA (aY (dD (K := K) rfl) rfl (T.nb "isinstance" (by decide)) (by decide +kernel) (aA (pv 0) (aA (fP rfl PR.x_NoText.g) aB))) aB))))) (aM (i := 2) dS.nd rfl (Or.inl rfl)) (aH (aP (i := 1) dS.nd rfl (Or.inl rfl) (aJ fB (pv 1) (aJ lR (bO (aA fO aB)) (bY gQ rfl (T.nb "int" (by decide)) (by decide +kernel) (aA (pv 2) aB))))))))
   (aD (cW (b8 (PW.pt (pw_or (fL (aY (dD (K := K) rfl) rfl (T.nb "isinstance" (by decide)) (by decide +kernel) (aA (pv 0) (aA (fP rfl PR.x_TooMany.g) aB)))) (pw_or (fL (aY (dD (K := K) rfl) rfl (T.nb "isinstance" (by decide)) (by decide +kernel) (aA (pv 0) (aA (fP rfl PR.x_WrongBook.g) aB)))) (pw_or1 (oF (fL (aY (dD (K := K) rfl) rfl (T.nb "isinstance" (by decide)) (by decide +kernel) (aA (pv 0) (aA (pe_ty T "ValueError") aB))))))))) (aH (cE (fI PySem.F.plainAttrs_list PySem.F.slot_list_append PySem.F.type_list_append cX (pv 1) (aA fO aB)))) bJ))
   (aH (aU (pv 1))))))))), ?_⟩
 cases b with
 | true =>
  have hE : H e = some (fC X_NoSide e) := hE0
  refine ⟨(by show 0 <= sizeLine; decide), fun p hp => ?_⟩
  have hE := (Same.new hp (.lst [])) _ _ hE
  have s1 := Same.new hp (.lst [])
  have hP : upd H p (.lst []) p = some (.lst []) := aC
  generalize upd H p (.lst []) = H1 at *
  refine ⟨fun σ H' => σ = [some (.ref e), some (.ref p), none] /\ Same H H' /\ H' e = some (fC X_NoSide e) /\ H' p = some (.lst []), ?_, ?_⟩
  ·refine ⟨_, rfl, e, X_NoSide, _, _, _, rfl, rfl, hE, PR.a_NoSide, PR.k_NoSide_OneSide, _, rfl, ?_⟩
   exact eD ⟨rfl, s1, hE, hP⟩
  clear hE hP s1
  rintro σ H1 ⟨rfl, s1, hE, hP⟩
  refine ⟨fun σ H' => σ = [some (.ref e), some (.ref p), none] /\ Same H H' /\ H' e = some (fC X_NoSide e) /\ H' p = some (.lst [.str "NoSide"]), ?_, ?_⟩
  ·refine ⟨_, rfl, e, X_NoSide, _, _, _, rfl, rfl, hE, PR.a_NoSide, PR.k_NoSide_NoSide, _, rfl, ?_⟩
   refine iI ?_
   refine ⟨_, rfl, .inl ⟨rfl, _, SqL.of hP⟩, p, _, _, rfl, rfl, hP, by exact aN (by decide), rfl, s1.upd_old hp, ?_, by rw [aC]; rfl⟩
   rw [aQ (fun z => by rw [z, hP] at hE; cases hE)]; exact hE
  clear hE hP s1
  rintro σ H1 ⟨rfl, s1, hE, hP⟩
  refine ⟨fun σ H' => ∃ (r : Addr) (v2 : Option V), σ = [some (.ref e), some (.ref r), v2] /\ Same H H' /\ H' e = some (fC X_NoSide e) /\ H' r = some (.lst [.str "NoSide"]), ?_, ?_⟩
  ·refine ⟨_, rfl, e, X_NoSide, _, _, _, rfl, rfl, hE, PR.a_NoSide, PR.k_NoSide_NoFraction, ?_⟩
   refine ⟨_, rfl, e, X_NoSide, _, _, _, rfl, rfl, hE, PR.a_NoSide, PR.k_NoSide_NoPoint, ?_⟩
   refine ⟨_, rfl, e, X_NoSide, _, _, _, rfl, rfl, hE, PR.a_NoSide, PR.k_NoSide_NoRow, (by show 3 <= sizeLine; decide), fun l hl => ?_⟩
   have t1 := Same.new hl (.lst [.bl false, .bl false, .bl false])
   refine ⟨l, rfl, ⟨_, SqL.of aC⟩, ?_⟩
   have hl1 : upd H1 l (.lst [.bl false, .bl false, .bl false]) l = some (.lst [.bl false, .bl false, .bl false]) := aC
   have s2 := s1.trans t1
   have hE2 := t1 _ _ hE
   have hP2 := t1 _ _ hP
   generalize upd H1 l (.lst [.bl false, .bl false, .bl false]) = H2 at *
   refine dO (xs := [.bl false, .bl false, .bl false]) (fun i σ H' => ∃ (r : Addr) (v2 : Option V), σ = [some (.ref e), some (.ref r), v2] /\ Same H2 H' /\ H' r = some (.lst [.str "NoSide"])) ⟨_, _, rfl, Same.refl _, hP2⟩ (fun i σ H' _ ⟨_, _, _, s, _⟩ => SqL.of (s _ _ hl1)) ?_ ?_
   ·rintro i x σ H3 hx ⟨r, v2, rfl, s3, hR3⟩
    have ex : x = .bl false := by
     have := List.mem_of_getElem? hx
     simpa using this
    subst ex
    refine ⟨_, rfl, (by show 1 <= sizeLine; decide), fun l1 hl2 => ⟨_, rfl, .inr ⟨false, rfl, l1, _, _, rfl, rfl, aC, by decide, by decide, by decide, fun l3 hl3 => ?_⟩⟩⟩
    have u1 := Same.new hl2 (.lst [.str "other"])
    have u2 := Same.new hl3 (.lst (List.replicate (if false = true then (1 : Int) else 0).toNat [V.str "other"]).flatten)
    have u12 := u1.trans u2
    refine ⟨r, l3, _, _, rfl, rfl, u12 _ _ hR3, aC, by exact Nat.le_of_lt (aN (by decide)), fun l4 hl4 => ?_⟩
    have u3 := Same.new hl4 (.lst ([.str "NoSide"] ++ (List.replicate (if false = true then (1 : Int) else 0).toNat [V.str "other"]).flatten))
    exact ⟨_, _, rfl, s3.trans (u12.trans u3), aC⟩
   ·rintro σ H3 ⟨r, v2, rfl, s3, hR3⟩
    exact ⟨r, v2, rfl, s2.trans s3, s3 _ _ hE2, hR3⟩
  clear hE hP s1
  rintro σ H1 ⟨p0, v20, rfl, s1, hE, hP⟩
  refine ⟨fun σ H' => ∃ (r : Addr) (v2 : Option V), σ = [some (.ref e), some (.ref r), v2] /\ Same H H' /\ H' e = some (fC X_NoSide e) /\ H' r = some (.lst [.str "NoSide"]), ?_, ?_⟩
  ·refine ⟨_, rfl, e, X_NoSide, _, _, _, rfl, rfl, hE, PR.a_NoSide, PR.k_NoSide_NotParted, ?_⟩
   refine ⟨_, rfl, e, X_NoSide, _, _, _, rfl, rfl, hE, PR.a_NoSide, PR.k_NoSide_NoTable, ?_⟩
   refine ⟨_, rfl, e, X_NoSide, _, _, _, rfl, rfl, hE, PR.a_NoSide, PR.k_NoSide_NoText, (by show 3 <= sizeLine; decide), fun l hl => ?_⟩
   have t1 := Same.new hl (.lst [.bl false, .bl false, .bl false])
   refine ⟨l, rfl, ⟨_, SqL.of aC⟩, ?_⟩
   have hl1 : upd H1 l (.lst [.bl false, .bl false, .bl false]) l = some (.lst [.bl false, .bl false, .bl false]) := aC
   have s2 := s1.trans t1
   have hE2 := t1 _ _ hE
   have hP2 := t1 _ _ hP
   generalize upd H1 l (.lst [.bl false, .bl false, .bl false]) = H2 at *
   refine dO (xs := [.bl false, .bl false, .bl false]) (fun i σ H' => ∃ (r : Addr) (v2 : Option V), σ = [some (.ref e), some (.ref r), v2] /\ Same H2 H' /\ H' r = some (.lst [.str "NoSide"])) ⟨_, _, rfl, Same.refl _, hP2⟩ (fun i σ H' _ ⟨_, _, _, s, _⟩ => SqL.of (s _ _ hl1)) ?_ ?_
   ·rintro i x σ H3 hx ⟨r, v2, rfl, s3, hR3⟩
    have ex : x = .bl false := by
     have := List.mem_of_getElem? hx
     simpa using this
    subst ex
    refine ⟨_, rfl, (by show 1 <= sizeLine; decide), fun l1 hl2 => ⟨_, rfl, .inr ⟨false, rfl, l1, _, _, rfl, rfl, aC, by decide, by decide, by decide, fun l3 hl3 => ?_⟩⟩⟩
    have u1 := Same.new hl2 (.lst [.str "other"])
    have u2 := Same.new hl3 (.lst (List.replicate (if false = true then (1 : Int) else 0).toNat [V.str "other"]).flatten)
    have u12 := u1.trans u2
    refine ⟨r, l3, _, _, rfl, rfl, u12 _ _ hR3, aC, by exact Nat.le_of_lt (aN (by decide)), fun l4 hl4 => ?_⟩
    have u3 := Same.new hl4 (.lst ([.str "NoSide"] ++ (List.replicate (if false = true then (1 : Int) else 0).toNat [V.str "other"]).flatten))
    exact ⟨_, _, rfl, s3.trans (u12.trans u3), aC⟩
   ·rintro σ H3 ⟨r, v2, rfl, s3, hR3⟩
    exact ⟨r, v2, rfl, s2.trans s3, s3 _ _ hE2, hR3⟩
  clear hE hP s1
  rintro σ H1 ⟨p1, v21, rfl, s1, hE, hP⟩
  refine ⟨fun σ H' => σ = [some (.ref e), some (.ref p1), v21] /\ H' = H1, ?_, ?_⟩
  ·refine ⟨_, rfl, e, X_NoSide, _, _, _, rfl, rfl, hE, PR.a_NoSide, PR.k_NoSide_TooMany, _, rfl, ?_⟩
   refine eD ?_
   refine ⟨_, rfl, e, X_NoSide, _, _, _, rfl, rfl, hE, PR.a_NoSide, PR.k_NoSide_WrongBook, _, rfl, ?_⟩
   refine eD ?_
   refine ⟨_, rfl, e, X_NoSide, _, _, _, rfl, rfl, hE, PR.a_NoSide, PR.k_NoSide_ValueError, _, rfl, ?_⟩
   exact eD ⟨rfl, rfl⟩
  rintro σ H2 ⟨rfl, rfl⟩
  exact ⟨_, rfl, q _ H2 s1 hP⟩
 | false =>
  have hE : H e = some (fC X_OneSide e) := hE0
  refine ⟨(by show 0 <= sizeLine; decide), fun p hp => ?_⟩
  have hE := (Same.new hp (.lst [])) _ _ hE
  have s1 := Same.new hp (.lst [])
  have hP : upd H p (.lst []) p = some (.lst []) := aC
  generalize upd H p (.lst []) = H1 at *
  refine ⟨fun σ H' => σ = [some (.ref e), some (.ref p), none] /\ Same H H' /\ H' e = some (fC X_OneSide e) /\ H' p = some (.lst [.str "OneSide"]), ?_, ?_⟩
  ·refine ⟨_, rfl, e, X_OneSide, _, _, _, rfl, rfl, hE, PR.a_OneSide, PR.k_OneSide_OneSide, _, rfl, ?_⟩
   refine iI ?_
   refine ⟨_, rfl, .inl ⟨rfl, _, SqL.of hP⟩, p, _, _, rfl, rfl, hP, by exact aN (by decide), rfl, s1.upd_old hp, ?_, by rw [aC]; rfl⟩
   rw [aQ (fun z => by rw [z, hP] at hE; cases hE)]; exact hE
  clear hE hP s1
  rintro σ H1 ⟨rfl, s1, hE, hP⟩
  refine ⟨fun σ H' => σ = [some (.ref e), some (.ref p), none] /\ Same H H' /\ H' e = some (fC X_OneSide e) /\ H' p = some (.lst [.str "OneSide"]), ?_, ?_⟩
  ·refine ⟨_, rfl, e, X_OneSide, _, _, _, rfl, rfl, hE, PR.a_OneSide, PR.k_OneSide_NoSide, _, rfl, ?_⟩
   exact eD ⟨rfl, s1, hE, hP⟩
  clear hE hP s1
  rintro σ H1 ⟨rfl, s1, hE, hP⟩
  refine ⟨fun σ H' => ∃ (r : Addr) (v2 : Option V), σ = [some (.ref e), some (.ref r), v2] /\ Same H H' /\ H' e = some (fC X_OneSide e) /\ H' r = some (.lst [.str "OneSide"]), ?_, ?_⟩
  ·refine ⟨_, rfl, e, X_OneSide, _, _, _, rfl, rfl, hE, PR.a_OneSide, PR.k_OneSide_NoFraction, ?_⟩
   refine ⟨_, rfl, e, X_OneSide, _, _, _, rfl, rfl, hE, PR.a_OneSide, PR.k_OneSide_NoPoint, ?_⟩
   refine ⟨_, rfl, e, X_OneSide, _, _, _, rfl, rfl, hE, PR.a_OneSide, PR.k_OneSide_NoRow, (by show 3 <= sizeLine; decide), fun l hl => ?_⟩
   have t1 := Same.new hl (.lst [.bl false, .bl false, .bl false])
   refine ⟨l, rfl, ⟨_, SqL.of aC⟩, ?_⟩
   have hl1 : upd H1 l (.lst [.bl false, .bl false, .bl false]) l = some (.lst [.bl false, .bl false, .bl false]) := aC
   have s2 := s1.trans t1
   have hE2 := t1 _ _ hE
   have hP2 := t1 _ _ hP
   generalize upd H1 l (.lst [.bl false, .bl false, .bl false]) = H2 at *
   refine dO (xs := [.bl false, .bl false, .bl false]) (fun i σ H' => ∃ (r : Addr) (v2 : Option V), σ = [some (.ref e), some (.ref r), v2] /\ Same H2 H' /\ H' r = some (.lst [.str "OneSide"])) ⟨_, _, rfl, Same.refl _, hP2⟩ (fun i σ H' _ ⟨_, _, _, s, _⟩ => SqL.of (s _ _ hl1)) ?_ ?_
   ·rintro i x σ H3 hx ⟨r, v2, rfl, s3, hR3⟩
    have ex : x = .bl false := by
     have := List.mem_of_getElem? hx
     simpa using this
    subst ex
    refine ⟨_, rfl, (by show 1 <= sizeLine; decide), fun l1 hl2 => ⟨_, rfl, .inr ⟨false, rfl, l1, _, _, rfl, rfl, aC, by decide, by decide, by decide, fun l3 hl3 => ?_⟩⟩⟩
    have u1 := Same.new hl2 (.lst [.str "other"])
    have u2 := Same.new hl3 (.lst (List.replicate (if false = true then (1 : Int) else 0).toNat [V.str "other"]).flatten)
    have u12 := u1.trans u2
    refine ⟨r, l3, _, _, rfl, rfl, u12 _ _ hR3, aC, by exact Nat.le_of_lt (aN (by decide)), fun l4 hl4 => ?_⟩
    have u3 := Same.new hl4 (.lst ([.str "OneSide"] ++ (List.replicate (if false = true then (1 : Int) else 0).toNat [V.str "other"]).flatten))
    exact ⟨_, _, rfl, s3.trans (u12.trans u3), aC⟩
   ·rintro σ H3 ⟨r, v2, rfl, s3, hR3⟩
    exact ⟨r, v2, rfl, s2.trans s3, s3 _ _ hE2, hR3⟩
  clear hE hP s1
  rintro σ H1 ⟨p0, v20, rfl, s1, hE, hP⟩
  refine ⟨fun σ H' => ∃ (r : Addr) (v2 : Option V), σ = [some (.ref e), some (.ref r), v2] /\ Same H H' /\ H' e = some (fC X_OneSide e) /\ H' r = some (.lst [.str "OneSide"]), ?_, ?_⟩
  ·refine ⟨_, rfl, e, X_OneSide, _, _, _, rfl, rfl, hE, PR.a_OneSide, PR.k_OneSide_NotParted, ?_⟩
   refine ⟨_, rfl, e, X_OneSide, _, _, _, rfl, rfl, hE, PR.a_OneSide, PR.k_OneSide_NoTable, ?_⟩
   refine ⟨_, rfl, e, X_OneSide, _, _, _, rfl, rfl, hE, PR.a_OneSide, PR.k_OneSide_NoText, (by show 3 <= sizeLine; decide), fun l hl => ?_⟩
   have t1 := Same.new hl (.lst [.bl false, .bl false, .bl false])
   refine ⟨l, rfl, ⟨_, SqL.of aC⟩, ?_⟩
   have hl1 : upd H1 l (.lst [.bl false, .bl false, .bl false]) l = some (.lst [.bl false, .bl false, .bl false]) := aC
   have s2 := s1.trans t1
   have hE2 := t1 _ _ hE
   have hP2 := t1 _ _ hP
   generalize upd H1 l (.lst [.bl false, .bl false, .bl false]) = H2 at *
   refine dO (xs := [.bl false, .bl false, .bl false]) (fun i σ H' => ∃ (r : Addr) (v2 : Option V), σ = [some (.ref e), some (.ref r), v2] /\ Same H2 H' /\ H' r = some (.lst [.str "OneSide"])) ⟨_, _, rfl, Same.refl _, hP2⟩ (fun i σ H' _ ⟨_, _, _, s, _⟩ => SqL.of (s _ _ hl1)) ?_ ?_
   ·rintro i x σ H3 hx ⟨r, v2, rfl, s3, hR3⟩
    have ex : x = .bl false := by
     have := List.mem_of_getElem? hx
     simpa using this
    subst ex
    refine ⟨_, rfl, (by show 1 <= sizeLine; decide), fun l1 hl2 => ⟨_, rfl, .inr ⟨false, rfl, l1, _, _, rfl, rfl, aC, by decide, by decide, by decide, fun l3 hl3 => ?_⟩⟩⟩
    have u1 := Same.new hl2 (.lst [.str "other"])
    have u2 := Same.new hl3 (.lst (List.replicate (if false = true then (1 : Int) else 0).toNat [V.str "other"]).flatten)
    have u12 := u1.trans u2
    refine ⟨r, l3, _, _, rfl, rfl, u12 _ _ hR3, aC, by exact Nat.le_of_lt (aN (by decide)), fun l4 hl4 => ?_⟩
    have u3 := Same.new hl4 (.lst ([.str "OneSide"] ++ (List.replicate (if false = true then (1 : Int) else 0).toNat [V.str "other"]).flatten))
    exact ⟨_, _, rfl, s3.trans (u12.trans u3), aC⟩
   ·rintro σ H3 ⟨r, v2, rfl, s3, hR3⟩
    exact ⟨r, v2, rfl, s2.trans s3, s3 _ _ hE2, hR3⟩
  clear hE hP s1
  rintro σ H1 ⟨p1, v21, rfl, s1, hE, hP⟩
  refine ⟨fun σ H' => σ = [some (.ref e), some (.ref p1), v21] /\ H' = H1, ?_, ?_⟩
  ·refine ⟨_, rfl, e, X_OneSide, _, _, _, rfl, rfl, hE, PR.a_OneSide, PR.k_OneSide_TooMany, _, rfl, ?_⟩
   refine eD ?_
   refine ⟨_, rfl, e, X_OneSide, _, _, _, rfl, rfl, hE, PR.a_OneSide, PR.k_OneSide_WrongBook, _, rfl, ?_⟩
   refine eD ?_
   refine ⟨_, rfl, e, X_OneSide, _, _, _, rfl, rfl, hE, PR.a_OneSide, PR.k_OneSide_ValueError, _, rfl, ?_⟩
   exact eD ⟨rfl, rfl⟩
  rintro σ H2 ⟨rfl, rfl⟩
  exact ⟨_, rfl, q _ H2 s1 hP⟩
end
end Mw
namespace Mw
open PySem L2
section
variable {P : Program} {w : World} {K : PySem.W.Frag} {mg : Str -> Option Value} {base : Heap} {f : Addr} {fd : FuncData} {nf C ns : Addr} {C_Corral X_NoFraction X_NoSide X_MendError X_OneSide X_NoPoint X_NoRow X_NotParted X_NoTable X_NoText X_TooMany X_WrongBook : Addr}
theorem eW : FnScope ["_law_rows", "_law_way", "_law_caught", "error"] ["_law_rows", "_law_way"] (aG (top 59)) := ⟨rfl, rfl, rfl, by decide +kernel, rfl, by decide +kernel, by decide +kernel⟩
theorem ok__law_refused (F : Fun K "_law_refused" "_law_refused" (top 59) f fd) (T : Txt BN mg) (PR : Prog K mg C_Corral X_MendError X_NoFraction X_NoSide X_OneSide X_NoPoint X_NoRow X_NoTable X_NoText X_NotParted X_TooMany X_WrongBook) (c__law_asked : CalX P w K mg base 12 "_law_asked" ["_law_rows", "_law_way"] (spAskedX K X_NoSide X_OneSide)) (c__law_kinds : Cal P w K mg base 1 "_law_kinds" ["_law_caught"] (spKindsW X_NoSide X_OneSide)) : FnOk P w K mg base CX0 13 f fd ["_law_rows", "_law_way"] (spRefdW K) := by
 refine F.ok eW (fun vs H Q E h => ?_) (fun cdv A outer s H vs Q E hr h => ?_)
 ·obtain ⟨a, as, rs, m, w, rfl, _⟩ := h
  rfl
 obtain ⟨a, as, rs, m, w, rfl, hA, hR, hV, hne, hw0, hw4, q⟩ := h
 refine ⟨_, (aD (aP (i := 2) eW.nd rfl (Or.inl rfl) pe_non)
   (aD (cW (ps_try (i := 3) rfl rfl rfl PR.x_MendError.g eW.nd rfl rfl (fun _ _ => (aH (cE (b6 c__law_asked (hr.mono (by decide)) rfl tryC_pass (aA (pv 0) (aA (pv 1) aB)))))) (fun _ _ => (aH (aP (i := 2) eW.nd rfl (Or.inl rfl) (pv 3))))))
   (aD (b8 (bB op_isN (pv 2) pe_non (bA _)) (aH (aU (bO aB))) bJ)
   (aH (aU (aR c__law_kinds (hr.mono (by decide)) rfl (aA (pv 2) aB))))))), ?_⟩
 refine ⟨fun σ H' => ∃ (v2 v3 : Option V), σ = [some (.ref a), some (.int w), v2, v3] /\ Same H H' /\ ((v2 = some .non /\ (∀ r ∈ rs, InR 2 r.2) /\ (bS rs \/ w = 3)) \/ ∃ (e : Addr) (b : Bool), v2 = some (.ref e) /\ H' e = some (fC (if b then X_NoSide else X_OneSide) e) /\ (b = true -> ∃ r ∈ rs, ¬ InR 2 r.2) /\ (b = false -> (∀ r ∈ rs, InR 2 r.2) /\ ¬ bS rs /\ w ≠ 3)), ?_, ?_⟩
 ·refine ⟨_, rfl, _, rfl, a, as, rs, m, w, rfl, hA, hR, hV, hne, hw0, hw4, fun r hr hb => ?_, fun hin => ⟨fun hb hw H1 s1 => ?_, fun hg v H1 s1 => ?_⟩⟩
  ·refine ⟨X_NoSide, rfl, PR.e_NoSide_MendError, fun e he => ?_⟩
   exact ⟨_, rfl, _, _, rfl, Same.new he _, .inr ⟨e, true, rfl, aC, fun _ => ⟨r, hr, hb⟩, (fun z => nomatch z)⟩⟩
  ·refine ⟨X_OneSide, rfl, PR.e_OneSide_MendError, fun e he => ?_⟩
   exact ⟨_, rfl, _, _, rfl, s1.trans (Same.new he _), .inr ⟨e, false, rfl, aC, (fun z => nomatch z), fun _ => ⟨hin, hb, hw⟩⟩⟩
  ·exact ⟨_, _, rfl, s1, .inl ⟨rfl, hin, hg⟩⟩
 rintro σ H1 ⟨v2, v3, rfl, s1, h⟩
 rcases h with ⟨rfl, hin, hg⟩ | ⟨e, b, rfl, hE, h1, h2⟩
 ·refine ⟨_, rfl, rfl, _, rfl, ?_⟩
  refine iI ?_
  refine ⟨(by show 0 <= sizeLine; decide), fun p hp => ?_⟩
  exact q p _ [] (.inr (.inr ⟨hin, hg, rfl⟩)) (s1.trans (Same.new hp _)) aC
 ·refine ⟨_, rfl, rfl, _, rfl, ?_⟩
  refine eD ?_
  refine ⟨_, rfl, e, b, rfl, hE, fun r H2 s2 hr2 => ?_⟩
  cases b with
  | true => exact q r H2 [("NoSide" : Str)] (.inl ⟨h1 rfl, rfl⟩) (s1.trans s2) hr2
  | false => exact q r H2 [("OneSide" : Str)] (.inr (.inl ⟨(h2 rfl).1, (h2 rfl).2.1, (h2 rfl).2.2, rfl⟩)) (s1.trans s2) hr2
end
end Mw
namespace Mw
open PySem L2
section
variable {P : Program} {w : World} {K : PySem.W.Frag} {mg : Str -> Option Value} {base : Heap} {f : Addr} {fd : FuncData} {nf C ns : Addr} {C_Corral X_NoFraction X_NoSide X_MendError X_OneSide X_NoPoint X_NoRow X_NotParted X_NoTable X_NoText X_TooMany X_WrongBook : Addr}
theorem e9 : FnScope ["_law_script", "_law_rows", "_law_cell", "_law_at", "_law_wrong", "_law_side_here", "_law_some", "_law_bad", "_law_way", "_law_due", "_law_handed"] ["_law_script"] (aG (top 60)) := ⟨rfl, rfl, rfl, by decide +kernel, rfl, by decide +kernel, by decide +kernel⟩
theorem ok_law (F : Fun K "law" "law" (top 60) f fd) (T : Txt BN mg) (c__law_sided : Cal P w K mg base 3 "_law_sided" ["_law_script"] (spSidedW K)) (c__law_cell_at : Cal P w K mg base 1 "_law_cell_at" ["_law_script", "_law_k"] (spCell K)) (c__law_refused : Cal P w K mg base 13 "_law_refused" ["_law_rows", "_law_way"] (spRefdW K)) : FnOk P w K mg base CX0 14 f fd ["_law_script"] (spLaw K) := by
 refine F.ok e9 (fun vs H Q E h => ?_) (fun cdv A outer s H vs Q E hr h => ?_)
 ·obtain ⟨a, ns, rfl, _⟩ := h
  rfl
 obtain ⟨a, ns, rfl, hS, _, q⟩ := h
 refine ⟨_, (aD (aP (i := 1) e9.nd rfl (Or.inl rfl) (aR c__law_sided (hr.mono (by decide)) rfl (aA (pv 0) aB)))
   (aD (cW (aP (i := 2) e9.nd rfl (Or.inl rfl) (aR c__law_cell_at (hr.mono (by decide)) rfl (aA (pv 0) (aA aE aB)))))
   (aD (cW (aP (i := 3) e9.nd rfl (Or.inl rfl) (aJ cL (aJ cA (pv 2) aE) (aY (cZ (K := K) rfl) rfl (T.nb "len" (by decide)) (by decide +kernel) (aA (pv 1) aB)))))
   (aD (cW (aP (i := 4) e9.nd rfl (Or.inl rfl) (aJ fB (aJ fB (dZ (dY (K := K) rfl) (pv 1) fG (eB (pv 3))) (bO (aA (eC (aA (bC (b7 (K := K) rfl) (bC (bE (K := K) rfl) (pv 1) (pv 3) (fun _ _ => rfl)) aE (fun _ _ => rfl)) (aA (bC (bE (K := K) rfl) (bO (aA aE (aA (gT eZ aE) (aA (aJ cB aE (aJ cL (aJ cA (pv 2) aE) aE)) (aA (gT eZ aE) aB))))) (aJ cL (pv 2) aE) (fun _ _ => rfl)) aB))) aB))) (dZ (dY (K := K) rfl) (pv 1) (eB (aJ cB (pv 3) aE)) fG))))
   (aD (cI PassesOwn.never rfl (jQ rfl (T.nb "range" (by decide)) (aA aE aB)) (aM (i := 5) e9.nd rfl (Or.inr rfl)) (aD (dU (i := 6) e9.nd rfl rfl (sc := aG (top 60)) (N := ["_law_script", "_law_rows", "_law_cell", "_law_at", "_law_wrong", "_law_side_here", "_law_some", "_law_bad", "_law_way", "_law_due", "_law_handed"]) (NB := ["_law_row", "_law_side_here"]) (fr := [none, some 5]) rfl (by decide +kernel) (bD (pv 1)) (fun _ _ _ _ => (aM (i := 0) (show (["_law_row", "_law_side_here"] : List Str).Nodup by decide +kernel) rfl (Or.inl rfl))) (fun _ _ _ _ => .one (bB dH (bC (b7 (K := K) rfl) (pv 0) aE (fun _ _ => rfl)) (pv 1) (bA _))) (fun _ _ _ _ => (pv 0)))
   (aD (dU (i := 7) e9.nd rfl rfl (sc := aG (top 60)) (N := ["_law_script", "_law_rows", "_law_cell", "_law_at", "_law_wrong", "_law_side_here", "_law_some", "_law_bad", "_law_way", "_law_due", "_law_handed"]) (NB := ["_law_row", "_law_side_here"]) (fr := [none, some 5]) rfl (by decide +kernel) (bD (pv 4)) (fun _ _ _ _ => (aM (i := 0) (show (["_law_row", "_law_side_here"] : List Str).Nodup by decide +kernel) rfl (Or.inl rfl))) (fun _ _ _ _ => .one (bB oM (bC (b7 (K := K) rfl) (pv 0) aE (fun _ _ => rfl)) (aJ fQ aE (pv 1)) (bA _))) (fun _ _ _ _ => (pv 0)))
   (aH (cI PassesOwn.never rfl (jQ rfl (T.nb "range" (by decide)) (aA aE aB)) (aM (i := 8) e9.nd rfl (Or.inl rfl)) (aD (aP (i := 9) e9.nd rfl (Or.inl rfl) (bC (bE (K := K) rfl) (bO (aA (bO (aA fO aB)) (aA (bO aB) aB))) (bY gQ rfl (T.nb "int" (by decide)) (by decide +kernel) (aA (fH dH (pv 8) aE (bA _)) aB)) (fun _ _ => rfl)))
   (aD (aP (i := 10) e9.nd rfl (Or.inl rfl) (bY (oX (K := K) rfl) rfl (T.nb "list" (by decide)) (by decide +kernel) (aA (pv 6) aB)))
   (aD (cW (b8 (PW.pt (pw_and (bB mO (aY (cZ (K := K) rfl) rfl (T.nb "len" (by decide)) (by decide +kernel) (aA (pv 6) aB)) aE (bA _)) (pH (PW.pt (pw_or (bB (jT 0 (K := K) rfl hr.units8 (by decide)) (aR c__law_refused (hr.mono (by decide)) rfl (aA (pv 10) (aA (pv 8) aB))) (pv 9) (bA _)) (pw_or1 (bB (jT 1 (K := K) rfl hr.units8 (by decide)) (pv 10) (pv 6) (bA _)))))))) (aH (aU pe_bl)) bJ))
   (aH (b8 (PW.pt (pw_or (bB (jT 0 (K := K) rfl hr.units8 (by decide)) (aR c__law_refused (hr.mono (by decide)) rfl (aA (pv 7) (aA (pv 8) aB))) (bO (aA fO aB)) (bA _)) (pw_or1 (bB (jT 0 (K := K) rfl hr.units8 (by decide)) (aR c__law_refused (hr.mono (by decide)) rfl (aA (pv 4) (aA (pv 8) aB))) (bO (aA fO aB)) (bA _))))) (aH (aU pe_bl)) bJ))))))))))
   (aH (aU (pe_or (fH oN (aY call_lenSet rfl (T.nb "len" (by decide)) (by decide +kernel) (aA (bY (call_setK (K := K) rfl rfl) rfl (T.nb "set" (by decide)) (by decide +kernel) (aA (bQ (sc := aG (top 60)) (N := ["_law_script", "_law_rows", "_law_cell", "_law_at", "_law_wrong", "_law_side_here", "_law_some", "_law_bad", "_law_way", "_law_due", "_law_handed"]) (NB := ["_law_row"]) (fr := [none]) rfl (by decide +kernel) (bD (pv 1)) (fun _ _ _ _ => (aM (i := 0) (show (["_law_row"] : List Str).Nodup by decide +kernel) rfl (Or.inl rfl))) (fun _ _ _ _ => .nil) (fun _ _ _ _ => (bC (b7 (K := K) rfl) (pv 0) aE (fun _ _ => rfl)))) aB)) aB)) aE (bA _)) (pe_one (fH (op_eqDeep 0 (K := K) rfl hr.units8 (by decide)) (aR c__law_refused (hr.mono (by decide)) rfl (aA (pv 1) (aA (aJ cL (aJ cA (pv 2) aE) aE) aB))) (bO aB) (bA _))))))))))), ?_⟩
 refine ⟨_, rfl, a, ns, rfl, hS, fun l H0 as rs m s0 hl0 hL hR hV hne hin => ?_⟩
 have hal : as.length = rs.length := Paired.length hR
 have hrl := hV.len
 have hr0 : 0 < rs.length := List.length_pos_iff.mpr hne
 refine ⟨fun σ H' => ∃ cell : Int, σ = [some (.ref a), some (.ref l), some (.int cell), none, none, none, none, none, none, none, none] /\ H' = H0, ?_, ?_⟩
 ·exact ⟨_, rfl, a, ns, 2, rfl, s0.seq hS, by decide, _, rfl, rfl⟩
 rintro σ H1 ⟨cell, rfl, rfl⟩
 obtain ⟨k, ek, hk⟩ : ∃ k : Nat, cell / 4 % (rs.length : Int) = (k : Int) /\ k < rs.length := by
  have h0 := Int.emod_nonneg (cell / 4) (show (rs.length : Int) ≠ 0 by omega)
  have h1 := Int.emod_lt_of_pos (cell / 4) (show (0 : Int) < (rs.length : Int) by omega)
  exact ⟨(cell / 4 % (rs.length : Int)).toNat, by omega, by omega⟩
 refine ⟨fun σ H' => σ = [some (.ref a), some (.ref l), some (.int cell), some (.int k), none, none, none, none, none, none, none] /\ H' = H1, ?_, ?_⟩
 ·refine ⟨_, rfl, _, _, rfl, rfl, fX (by decide) (by decide), _, rfl, l, _, rfl, .inl (SqL.of hL), _, _, rfl, rfl, (by show (0 : Int) < ((as.map V.ref).length : Int); rw [List.length_map]; omega), ?_, rfl⟩
  show [some (V.ref a), some (.ref l), some (.int cell), some (.int (cell / 4 % ((as.map V.ref).length : Int))), none, none, none, none, none, none, none] = _
  rw [List.length_map, hal, ek]
 clear ek
 rintro σ H1 ⟨rfl, rfl⟩
 obtain ⟨A, hA⟩ : ∃ A, as[k]? = some A := ⟨_, List.getElem?_eq_getElem (by omega)⟩
 obtain ⟨row, hrow, pt, hp1, hp2⟩ := paired_get hR hA
 have hrm := List.mem_of_getElem? hrow
 refine ⟨fun σ H' => ∃ (wr : Addr) (ws : List Addr) (rw' : List (List Int × Int)) (sd : Int), σ = [some (.ref a), some (.ref l), some (.int cell), some (.int k), some (.ref wr), none, none, none, none, none, none] /\ Same H1 H' /\ H' wr = some (.lst (ws.map V.ref)) /\ RowsAt K H' ws rw' /\ RowsV m rw' /\ (row.1, sd) ∈ rw' /\ ¬ InR 2 sd /\ sd ≠ 0 /\ sd ≠ 1, ?_, ?_⟩
 ·refine ⟨_, rfl, _, rfl, (k : Int), rfl, l, _, rfl, SqL.of hL, fun u1 hu1 => ?_⟩
  rw [cutR_to as (by omega)]
  have t1 := Same.new hu1 (.lst ((as.take k).map V.ref))
  have hU1 : upd H1 u1 (.lst ((as.take k).map V.ref)) u1 = some (.lst ((as.take k).map V.ref)) := aC
  generalize upd H1 u1 (.lst ((as.take k).map V.ref)) = G1 at *
  have hat : atI (as.map V.ref) (k : Int) = some (.ref A) := pU (k := k) (by rw [List.getElem?_map, hA]; rfl) rfl
  refine ⟨_, rfl, _, rfl, l, _, _, _, rfl, rfl, SqL.of (t1 _ _ hL), hat, A, _, _, _, rfl, rfl, t1.seqT hp1, rfl, _, rfl, _, rfl, _, _, rfl, rfl, fX (by decide) (by decide), _, _, rfl, rfl, (by show (0 : Int) < 100; decide), _, _, rfl, rfl, _, rfl, (by show 4 <= sizeLine; decide), fun u2 hu2 => ?_⟩
  have c0 := Int.emod_nonneg (cell / 64) (show (100 : Int) ≠ 0 by decide)
  have c1 := Int.emod_lt_of_pos (cell / 64) (show (0 : Int) < 100 by decide)
  obtain ⟨sd, hsd, hat2⟩ := at_mem (ds := [2, -1, 3 + cell / 64 % 100, -2]) (z := cell % 4) (Int.emod_nonneg _ (by decide)) (Int.emod_lt_of_pos _ (by decide))
  have hsd2 : sd = 2 \/ sd = -1 \/ sd = 3 + cell / 64 % 100 \/ sd = -2 := by simpa using hsd
  have t2 := Same.new hu2 (.lst [.int 2, .int (-1), .int (3 + cell / 64 % 100), .int (-2)])
  refine ⟨_, rfl, _, _, rfl, rfl, (by show (0 : Int) < 4; decide), u2, _, _, _, rfl, rfl, SqL.of aC, hat2, (by show 2 <= sizeLine; decide), fun u3 hu3 => ⟨(by show 1 <= sizeLine; decide), fun u4 hu4 => ?_⟩⟩
  have t3 := Same.new hu3 (.tup [.ref pt, .int sd])
  have t4 := Same.new hu4 (.lst [.ref u3])
  have t14 := t2.trans (t3.trans t4)
  refine ⟨u1, u4, _, _, rfl, rfl, t14 _ _ hU1, aC, by rw [List.length_map, List.length_take]; exact Nat.le_of_lt (aN (by show min k as.length + 1 <= 1000; omega)), fun u5 hu5 => ?_⟩
  have t5 := Same.new hu5 (.lst ((as.take k).map V.ref ++ [.ref u3]))
  have s15 := t1.trans (t14.trans t5)
  refine ⟨_, rfl, _, rfl, _, _, rfl, rfl, (k : Int) + 1, rfl, l, _, rfl, SqL.of (s15 _ _ hL), fun u6 hu6 => ?_⟩
  have ecut : cP (as.map V.ref) (some ((k : Int) + 1)) none = (as.drop (k + 1)).map V.ref := cutR_from (k := k + 1) as (by omega)
  rw [ecut]
  have t6 := Same.new hu6 (.lst ((as.drop (k + 1)).map V.ref))
  refine ⟨u5, u6, _, _, rfl, rfl, t6 _ _ aC, aC, by rw [List.length_append, List.length_map, List.length_map, List.length_take, List.length_drop]; exact Nat.le_of_lt (aN (by show min k as.length + 1 + (as.length - (k + 1)) <= 1000; omega)), fun u7 hu7 => ?_⟩
  have t7 := Same.new hu7 (.lst (((as.take k).map V.ref ++ [.ref u3]) ++ (as.drop (k + 1)).map V.ref))
  have s17 := s15.trans (t6.trans t7)
  have hu3' : upd (upd (upd (upd G1 u2 (.lst [.int 2, .int (-1), .int (3 + cell / 64 % 100), .int (-2)])) u3 (.tup [.ref pt, .int sd])) u4 (.lst [.ref u3])) u5 (.lst ((as.take k).map V.ref ++ [.ref u3])) u3 = some (.tup [.ref pt, .int sd]) := (t4.trans t5) _ _ aC
  have hu37 := (t6.trans t7) _ _ hu3'
  have hnb : ¬ InR 2 sd := fun ⟨y1, y2⟩ => by omega
  have mem : ∀ r ∈ rs.take k ++ [(row.1, sd)] ++ rs.drop (k + 1), r ∈ rs \/ r = (row.1, sd) := fun r hr => by
   rcases List.mem_append.mp hr with y | y
   ·rcases List.mem_append.mp y with y | y
    ·exact .inl (List.mem_of_mem_take y)
    ·exact .inr (List.mem_singleton.mp y)
   ·exact .inl (List.mem_of_mem_drop y)
  refine ⟨u7, as.take k ++ [u3] ++ as.drop (k + 1), rs.take k ++ [(row.1, sd)] ++ rs.drop (k + 1), sd, rfl, s17, by rw [aC, List.map_append, List.map_append]; rfl, ?_, ⟨hV.pos, hV.few, ?_, fun r hr => ?_, fun r hr x hx => ?_, fun r hr => ?_⟩, by simp, hnb, by omega, by omega⟩
  ·have hR7 := hR.same s17
   exact Paired.app (Paired.app (mV k hR7) (.cons ⟨pt, SqT.of hu37, s17.seqT hp2⟩ .nil)) (mW (k + 1) hR7)
  ·rw [List.length_append, List.length_append, List.length_take, List.length_drop, List.length_singleton]; omega
  ·rcases mem r hr with y | y
   ·exact hV.cnt r y
   ·rw [y]; exact hV.cnt row hrm
  ·rcases mem r hr with y | y
   ·exact hV.low r y x hx
   ·rw [y] at hx; exact hV.low row hrm x hx
  ·rcases mem r hr with y | y
   ·exact hV.sid r y
   ·rw [y]; exact dW (by show _ <= sd; omega) (by show sd <= _; omega) (by decide)
 rintro σ H2 ⟨wr, ws, rw', sd, rfl, s2, hW, hRw, hVw, hsm, hnb, hsd0, hsd1⟩
 have hL2 := s2 _ _ hL
 have hR2 := hR.same s2
 have hwl : ws.length = rw'.length := Paired.length hRw
 have hwl20 := hVw.len
 refine ⟨2, rfl, by decide, by decide, ?_⟩
 refine iF (lo := 0) (n := 2) (fun i σ H' => ∃ (v5 v6 v7 v8 v9 v10 : Option V), σ = [some (.ref a), some (.ref l), some (.int cell), some (.int k), some (.ref wr), v5, v6, v7, v8, v9, v10] /\ Same H2 H') ⟨none, none, none, none, none, none, rfl, Same.refl _⟩ ?_ ?_
 ·rintro i σ H3 hi ⟨v5, v6, v7, v8, v9, v10, rfl, s3⟩
  have hL3 := s3 _ _ hL2
  have hR3 := hR2.same s3
  have hW3 := s3 _ _ hW
  have hRw3 := hRw.same s3
  -- the rows of a side
  refine ⟨_, rfl, l, rfl, ⟨_, SqL.of hL3⟩, fun D hD => ?_⟩
  refine dP (xs := as.map V.ref) (fun j => decide ((rs.getD j ([], 0)).2 = (0 + (i : Int)))) (fun j => .ref (as.getD j 0)) (SqL.of hL3) (by rw [List.length_map]; exact Nat.le_of_lt (aN (by omega))) hD ?_ ?_
  ·intro j x H4 R R' hx s4 h1 h2
   obtain ⟨B, hB, rfl⟩ := aS hx
   obtain ⟨r, hr1, p, hr2, hr3⟩ := paired_get hR3 hB
   have e1 : rs.getD j ([], 0) = r := by rw [List.getD_eq_getElem?_getD, hr1]; rfl
   have e2 : as.getD j 0 = B := by rw [List.getD_eq_getElem?_getD, hB]; rfl
   rw [e1] at h1 h2
   rw [e2] at h1
   refine ⟨wk1 rfl, _, rfl, B, _, _, _, rfl, rfl, s4.seqT hr2, rfl, _, rfl, rfl, _, rfl, ?_⟩
   refine c9 (fun c => ?_) (fun c => ?_)
   ·have c1 : r.2 = 0 + (i : Int) := by injection c
    exact ⟨_, rfl, h1 (decide_eq_true c1) _ (Same.refl _)⟩
   ·exact h2 (decide_eq_false fun y => c (by rw [y])) _ (Same.refl _)
  intro H4 s4 hD4
  obtain ⟨cs, ecs, hCs⟩ := kZ (fun r => decide (r.2 = (0 + (i : Int)))) (hR3.same s4)
  rw [List.length_map, ecs] at hD4
  have hW4 := s4 _ _ hW3
  have hRw4 := hRw3.same s4
  refine ⟨_, rfl, wr, rfl, ⟨_, SqL.of hW4⟩, fun D2 hD2 => ?_⟩
  refine dP (xs := ws.map V.ref) (fun j => !decide ((rw'.getD j ([], 0)).2 = 1 - (0 + (i : Int)))) (fun j => .ref (ws.getD j 0)) (SqL.of hW4) (by rw [List.length_map]; exact Nat.le_of_lt (aN (by omega))) hD2 ?_ ?_
  ·intro j x H5 R R' hx s5 h1 h2
   obtain ⟨B, hB, rfl⟩ := aS hx
   obtain ⟨r, hr1, p, hr2, hr3⟩ := paired_get hRw4 hB
   have e1 : rw'.getD j ([], 0) = r := by rw [List.getD_eq_getElem?_getD, hr1]; rfl
   have e2 : ws.getD j 0 = B := by rw [List.getD_eq_getElem?_getD, hB]; rfl
   rw [e1] at h1 h2
   rw [e2] at h1
   refine ⟨wk1 rfl, _, rfl, B, _, _, _, rfl, rfl, s5.seqT hr2, rfl, _, rfl, _, _, rfl, rfl, rfl, _, rfl, ?_⟩
   refine oP (fun c => ?_) (fun c => ?_)
   ·have c1 : ¬ r.2 = 1 - (0 + (i : Int)) := fun y => c (by rw [y])
    exact ⟨_, rfl, h1 (by rw [decide_eq_false c1]; rfl) _ (Same.refl _)⟩
   ·have c1 : r.2 = 1 - (0 + (i : Int)) := by injection c
    exact h2 (by rw [decide_eq_true c1]; rfl) _ (Same.refl _)
  intro H5 s5 hD5
  obtain ⟨ds, eds, hDs⟩ := kZ (fun r => !decide (r.2 = 1 - (0 + (i : Int)))) (hRw4.same s5)
  rw [List.length_map, eds] at hD5
  have hD45 := s5 _ _ hD4
  have hCs5 := hCs.same s5
  have s35 := s3.trans (s4.trans s5)
  have hW5 := s5 _ _ hW4
  have hRw5 := hRw4.same s5
  obtain ⟨rc, erc⟩ : ∃ rc, rc = rs.filter (fun r => decide (r.2 = (0 + (i : Int)))) := ⟨_, rfl⟩
  obtain ⟨rd, erd⟩ : ∃ rd, rd = rw'.filter (fun r => !decide (r.2 = 1 - (0 + (i : Int)))) := ⟨_, rfl⟩
  rw [<- erc] at hCs5
  rw [<- erd] at hDs
  have hVc : RowsV m rc := hV.sub (fun r hr => by rw [erc] at hr; exact (List.mem_filter.mp hr).1) (by rw [erc]; exact List.length_filter_le _ _)
  have hVd : RowsV m rd := hVw.sub (fun r hr => by rw [erd] at hr; exact (List.mem_filter.mp hr).1) (by rw [erd]; exact List.length_filter_le _ _)
  have hsc : ∀ r ∈ rc, r.2 = 0 + (i : Int) := fun r hr => by
   rw [erc] at hr
   simpa using (List.mem_filter.mp hr).2
  have hinc : ∀ r ∈ rc, InR 2 r.2 := fun r hr => by
   rw [erc] at hr
   exact hin r (List.mem_filter.mp hr).1
  have hbc : ¬ bS rc := not_both hsc
  have hsd' : (row.1, sd) ∈ rd := by
   rw [erd]
   refine List.mem_filter.mpr ⟨hsm, ?_⟩
   have : ¬ sd = 1 - (0 + (i : Int)) := by omega
   show (!decide (sd = 1 - (0 + (i : Int)))) = true
   rw [decide_eq_false this]; rfl
  have hned : rd ≠ [] := fun e => by rw [e] at hsd'; simp at hsd'
  have hnew : rw' ≠ [] := fun e => by rw [e] at hsm; simp at hsm
  have hcl : cs.length = rc.length := Paired.length hCs5
  clear hCs hD4 hRw4 hRw3 hW4 hW3 hL3 hR3 ecs eds
  refine ⟨4, rfl, by decide, by decide, ?_⟩
  refine iF (lo := 0) (n := 4) (fun j σ H' => ∃ (v8 v9 v10 : Option V), σ = [some (.ref a), some (.ref l), some (.int cell), some (.int k), some (.ref wr), some (.int (0 + (i : Int))), some (.ref D), some (.ref D2), v8, v9, v10] /\ Same H5 H') ⟨_, _, _, rfl, Same.refl _⟩ ?_ ?_
  ·rintro j σ H6 hj ⟨v8, v9, v10, rfl, s6⟩
   refine ⟨(by show 1 <= sizeLine; decide), fun d1 hd1 => ⟨(by show 0 <= sizeLine; decide), fun d2 hd2 => ⟨(by show 2 <= sizeLine; decide), fun d3 hd3 => ?_⟩⟩⟩
   have t1 := Same.new hd1 (.lst [.str "OneSide"])
   have t2 := Same.new hd2 (.lst [])
   have t3 := Same.new hd3 (.lst [.ref d1, .ref d2])
   obtain ⟨dd, L0, hat, hdd, hL0⟩ : ∃ dd L0, atI [V.ref d1, .ref d2] (if decide (V.int (0 + (j : Int)) = V.int 3) = true then 1 else 0) = some (.ref dd) /\ (upd (upd (upd H6 d1 (.lst [.str "OneSide"])) d2 (.lst [])) d3 (.lst [.ref d1, .ref d2])) dd = some (.lst (L0.map V.str)) /\ (((0 + (j : Int)) = 3 -> L0 = []) /\ ((0 + (j : Int)) ≠ 3 -> L0 = [("OneSide" : Str)])) := by
    by_cases c : 0 + (j : Int) = 3
    ·refine ⟨d2, [], ?_, t3 _ _ aC, fun _ => rfl, fun y => absurd c y⟩
     rw [decide_eq_true (by rw [c]), if_pos rfl]; rfl
    ·refine ⟨d1, [("OneSide" : Str)], ?_, (t2.trans t3) _ _ aC, fun y => absurd y c, fun _ => rfl⟩
     rw [decide_eq_false (fun y => c (by injection y)), if_neg (by decide)]; rfl
   refine ⟨_, rfl, rfl, .inr ⟨_, rfl, d3, _, _, _, rfl, rfl, SqL.of aC, hat, ?_⟩⟩
   have t13 := t1.trans (t2.trans t3)
   have s7 := s6.trans t13
   generalize upd (upd (upd H6 d1 (.lst [.str "OneSide"])) d2 (.lst [])) d3 (.lst [.ref d1, .ref d2]) = H7 at *
   clear t1 t2 t3 t13 hat
   have hD7 := s7 _ _ hD45
   refine ⟨_, rfl, D, _, rfl, .inl (SqL.of hD7), fun hd hhd => ?_⟩
   have t8 := Same.new hhd (.lst (cs.map V.ref))
   have hHd : upd H7 hd (.lst (cs.map V.ref)) hd = some (.lst (cs.map V.ref)) := aC
   have s8 := s7.trans t8
   have hD8 := t8 _ _ hD7
   have hdd8 := t8 _ _ hdd
   generalize upd H7 hd (.lst (cs.map V.ref)) = H8 at *
   refine ⟨fun σ H' => σ = [some (.ref a), some (.ref l), some (.int cell), some (.int k), some (.ref wr), some (.int (0 + (i : Int))), some (.ref D), some (.ref D2), some (.int (0 + (j : Int))), some (.ref dd), some (.ref hd)] /\ Same H8 H', ?_, ?_⟩
   ·refine ⟨_, rfl, D, _, rfl, .inl (SqL.of hD8), _, _, rfl, rfl, _, rfl, ?_⟩
    refine c9 (fun z => ?_) (fun _ => ⟨rfl, Same.refl _⟩)
    have z1 : ((cs.map V.ref).length : Int) > 0 := z
    rw [List.length_map, hcl] at z1
    have hnec : rc ≠ [] := fun e => by rw [e] at z1; exact absurd z1 (by decide)
    refine ⟨_, rfl, _, rfl, hd, cs, rc, m, _, rfl, SqL.of hHd, hCs5.same s8, hVc, hnec, by omega, by omega, fun r H9 L hL9 s9 hr9 => ?_⟩
    have eL : L = L0 := by
     have h1 := hL9.one hinc hbc
     by_cases c : 0 + (j : Int) = 3
     ·rw [h1.1 c, hL0.1 c]
     ·rw [h1.2 c, hL0.2 c]
    subst eL
    refine ⟨_, rfl, ⟨r, dd, _, _, rfl, rfl, .inl ⟨SqL.of hr9, SqL.of (s9 _ _ hdd8)⟩, Deep.all (strs_plain _)⟩, ⟨_, rfl, eD ?_⟩⟩
    refine ⟨_, rfl, _, rfl, ⟨hd, D, _, _, rfl, rfl, .inl ⟨SqL.of (s9 _ _ hHd), SqL.of (s9 _ _ hD8)⟩, Deep.all (refs_plain _)⟩, ⟨_, rfl, eD ?_⟩⟩
    exact ⟨rfl, s9⟩
   rintro σ H9 ⟨rfl, s9⟩
   have s59 := s8.trans s9
   refine ⟨_, rfl, _, rfl, D2, ds, rd, m, _, rfl, SqL.of (s59 _ _ hD5), hDs.same s59, hVd, hned, by omega, by omega, fun r H10 L hL10 s10 hr10 => ?_⟩
   have eL := hL10.bad hsd' hnb
   subst eL
   refine ⟨(by show 1 <= sizeLine; decide), fun p hp => ?_⟩
   have t11 := Same.new hp (.lst [.str "NoSide"])
   refine ⟨⟨r, p, _, _, rfl, rfl, .inl ⟨SqL.of (t11 _ _ hr10), SqL.of aC⟩, Deep.all rfl⟩, ⟨_, rfl, eD ?_⟩⟩
   have s511 := s59.trans (s10.trans t11)
   generalize upd H10 p (.lst [.str "NoSide"]) = H11 at *
   refine ⟨_, rfl, _, rfl, wr, ws, rw', m, _, rfl, SqL.of (s511 _ _ hW5), hRw5.same s511, hVw, hnew, by omega, by omega, fun r2 H12 L hL12 s12 hr12 => ?_⟩
   have eL := hL12.bad hsm hnb
   subst eL
   refine ⟨(by show 1 <= sizeLine; decide), fun p2 hp2 => ?_⟩
   have t13 := Same.new hp2 (.lst [.str "NoSide"])
   refine ⟨⟨r2, p2, _, _, rfl, rfl, .inl ⟨SqL.of (t13 _ _ hr12), SqL.of aC⟩, Deep.all rfl⟩, ⟨_, rfl, eD ?_⟩⟩
   exact ⟨_, _, _, rfl, s511.trans (s12.trans t13)⟩
  ·rintro σ H6 ⟨v8, v9, v10, rfl, s6⟩
   exact ⟨_, _, _, _, _, _, rfl, s35.trans s6⟩
 rintro σ H3 ⟨v5, v6, v7, v8, v9, v10, rfl, s3⟩
 have hL3 := s3 _ _ hL2
 have hR3 := hR2.same s3
 refine ⟨_, rfl, l, rfl, ⟨_, SqL.of hL3⟩, fun D hD => ?_⟩
 refine aZ (xs := as.map V.ref) (fun _ j y => ∃ r, rs[j]? = some r /\ y = .int r.2) (fun _ _ _ _ _ h => h) (SqL.of hL3) (by rw [List.length_map]; exact Nat.le_of_lt (aN (by omega))) hD ?_ ?_
 ·intro j x H4 R hx s4 _ r4
  obtain ⟨B, hB, rfl⟩ := aS hx
  obtain ⟨r, hr1, p, hr2, hr3⟩ := paired_get hR3 hB
  exact ⟨c6 (n := 1) rfl, _, rfl, B, _, _, _, rfl, rfl, s4.seqT hr2, rfl, r4 _ _ (Same.refl _) ⟨r, hr1, rfl⟩⟩
 intro ys H4 s4 hD4 hyl hys
 have ey : ys = (rs.map (·.2)).map V.int := by
  rw [List.map_map]
  refine dG (by rw [hyl, List.length_map, hal]) fun j y r hj hr => ?_
  obtain ⟨r', g1, g2⟩ := hys j y hj
  rw [hr] at g1
  cases g1
  exact g2
 subst ey
 refine ⟨D, rs.map (·.2), rfl, SqL.of hD4, by rw [List.length_map]; omega, fun S U n hS0 hn => ?_⟩
 have t5 := Same.new hS0 (.set U n)
 refine ⟨S, U, n, rfl, aC, _, _, rfl, rfl, _, rfl, ?_⟩
 have s5 := s4.trans t5
 generalize upd H4 S (.set U n) = H5 at *
 refine c9 (fun _ => q _) (fun c => ?_)
 have c1 : ¬ ((n : Int) < 2) := c
 have hb : bS rs := Classical.byContradiction fun hb => by
  obtain ⟨c', hc'⟩ := one_side_of hin hb
  have := hn ⟨c', fun x hx => by
   obtain ⟨r, hr, rfl⟩ := List.mem_map.mp hx
   exact hc' r hr⟩
  omega
 refine ⟨_, rfl, _, rfl, _, _, rfl, rfl, fX (by decide) (by decide), _, _, rfl, rfl, (by show (0 : Int) < 4; decide), l, as, rs, m, _, rfl, SqL.of (s5 _ _ hL3), hR3.same s5, hV, hne, Int.emod_nonneg _ (by decide), Int.emod_lt_of_pos _ (by decide), fun r H6 L hL6 s6 hr6 => ?_⟩
 have eL := hL6.good hin hb
 subst eL
 refine ⟨(by show 0 <= sizeLine; decide), fun p hp => ?_⟩
 have t7 := Same.new hp (.lst [])
 exact ⟨⟨r, p, _, _, rfl, rfl, .inl ⟨SqL.of (t7 _ _ hr6), SqL.of aC⟩, .nil⟩, q _⟩
end
end Mw
namespace Mw
open PySem L2
section
variable {P : Program} {w : World} {K : PySem.W.Frag} {mg : Str -> Option Value} {base : Heap} {f : Addr} {fd : FuncData} {nf C ns : Addr} {C_Corral X_NoFraction X_NoSide X_MendError X_OneSide X_NoPoint X_NoRow X_NotParted X_NoTable X_NoText X_TooMany X_WrongBook : Addr}
theorem lK : FnScope ["self", "vectors"] ["self", "vectors"] (aG (mem 28 0)) := ⟨rfl, rfl, rfl, by decide +kernel, rfl, by decide +kernel, by decide +kernel⟩
theorem lS (F : Fun K "__init__" "Corral.__init__" (mem 28 0) f fd) (T : Txt BN mg) (CT : CTx K C) : FnOk P w K mg base CX0 1 f fd ["self", "vectors"] (mE C (kL C)) := by
 refine F.ok lK (fun vs H Q E h => ?_) (fun cdv A outer s H vs Q E hr h => ?_)
 ·obtain ⟨x, dx, us, H1, rfl, _, _, _, _, va, rfl, _⟩ := h
  rfl
 obtain ⟨x, dx, us, H1, rfl, hx, hd, hn, eH, va, rfl, q⟩ := h
 refine ⟨_, (aD (fM (pv 0) (pv 1) rfl)
   (aD (fM (pv 0) (bO aB) rfl)
   (aD (fM (pv 0) (bO aB) rfl)
   (aH (fM (pv 0) aE rfl))))), ?_⟩
 have hX : H x = some (.ins C dx []) := by rw [eH]; exact aC
 have s0 : Same H1 H := fun b o hb => by
  have bx : b ≠ x := bH hb hx
  have bd : b ≠ dx := bH hb hd
  rw [eH, aQ bx, aQ bd]; exact hb
 refine ⟨_, rfl, _, rfl, x, C, dx, _, rfl, hX, CT.cl, CT.vectors, (by show 0 < 1000; decide), ?_⟩
 have k1 : ∀ fs, OffD x H (upd H x (.ins C dx fs)) := fun fs => OffD.upd
 generalize hfs : bI "vectors" (V.ref va) [] = fs1 at *
 have hl1 : fs1.length = 1 := by rw [<- hfs]; rfl
 have k2 := k1 fs1
 have hX2 : upd H x (.ins C dx fs1) x = some (.ins C dx fs1) := aC
 generalize upd H x (.ins C dx fs1) = H2 at *
 refine ⟨(by show 0 <= sizeLine; decide), fun p1 hp1 => ?_⟩
 have t1 := Same.new hp1 (.lst [])
 have hp1x : p1 ≠ x := fun z => by rw [z, hX2] at hp1; cases hp1
 refine ⟨_, rfl, x, C, dx, fs1, rfl, t1 _ _ hX2, CT.cl, CT.places, by omega, ?_⟩
 have hl2 := dA "places" (V.ref p1) fs1
 have k3 : OffD x H (upd (upd H2 p1 (.lst [])) x (.ins C dx (bI "places" (.ref p1) fs1))) := (k2.trans (OffD.of t1)).trans OffD.upd
 have hX3 : upd (upd H2 p1 (.lst [])) x (.ins C dx (bI "places" (.ref p1) fs1)) x = some (.ins C dx (bI "places" (.ref p1) fs1)) := aC
 have hP3 : upd (upd H2 p1 (.lst [])) x (.ins C dx (bI "places" (.ref p1) fs1)) p1 = some (.lst []) := by rw [aQ hp1x]; exact aC
 generalize upd (upd H2 p1 (.lst [])) x (.ins C dx (bI "places" (.ref p1) fs1)) = H3 at *
 refine ⟨(by show 0 <= sizeLine; decide), fun p2 hp2 => ?_⟩
 have t2 := Same.new hp2 (.lst [])
 have hp2x : p2 ≠ x := fun z => by rw [z, hX3] at hp2; cases hp2
 refine ⟨_, rfl, x, C, dx, _, rfl, t2 _ _ hX3, CT.cl, CT.inverse, by omega, ?_⟩
 have hl3 := dA "inverse" (V.ref p2) (bI "places" (V.ref p1) fs1)
 have k4 : OffD x H (upd (upd H3 p2 (.lst [])) x (.ins C dx (bI "inverse" (.ref p2) (bI "places" (.ref p1) fs1)))) := (k3.trans (OffD.of t2)).trans OffD.upd
 have hX4 : upd (upd H3 p2 (.lst [])) x (.ins C dx (bI "inverse" (.ref p2) (bI "places" (.ref p1) fs1))) x = some (.ins C dx (bI "inverse" (.ref p2) (bI "places" (.ref p1) fs1))) := aC
 have hP4 : upd (upd H3 p2 (.lst [])) x (.ins C dx (bI "inverse" (.ref p2) (bI "places" (.ref p1) fs1))) p1 = some (.lst []) := by rw [aQ hp1x]; exact t2 _ _ hP3
 have hI4 : upd (upd H3 p2 (.lst [])) x (.ins C dx (bI "inverse" (.ref p2) (bI "places" (.ref p1) fs1))) p2 = some (.lst []) := by rw [aQ hp2x]; exact aC
 generalize upd (upd H3 p2 (.lst [])) x (.ins C dx (bI "inverse" (.ref p2) (bI "places" (.ref p1) fs1))) = H4 at *
 refine ⟨_, rfl, x, C, dx, _, rfl, hX4, CT.cl, CT.det, by omega, ?_⟩
 have hl4 := dA "determinant" (V.int 1) (bI "inverse" (V.ref p2) (bI "places" (V.ref p1) fs1))
 have k5 : OffD x H (upd H4 x (.ins C dx (bI "determinant" (.int 1) (bI "inverse" (.ref p2) (bI "places" (.ref p1) fs1))))) := k4.trans OffD.upd
 refine q x _ (k5.same s0 hx) hx ⟨⟨dx, _, p1, p2, [], aC, ⟨?_, ?_, ?_, ?_, by omega, fun f hf => ?_⟩, by rw [aQ hp1x]; exact hP4, by rw [aQ hp2x]; exact hI4, .nil⟩⟩ rfl
 ·rw [aT, if_neg (by decide +kernel), aT, if_neg (by decide +kernel), aT, if_neg (by decide +kernel), <- hfs, aT, if_pos rfl]
 ·rw [aT, if_neg (by decide +kernel), aT, if_neg (by decide +kernel), aT, if_pos rfl]
 ·rw [aT, if_neg (by decide +kernel), aT, if_pos rfl]
 ·rw [aT, if_pos rfl]
 ·have g : ∀ y : Str, y ∈ corFlds -> ¬ f = y := fun y hy z => hf (by rw [z]; exact hy)
  rw [aT, if_neg (g _ (by decide +kernel)), aT, if_neg (g _ (by decide +kernel)), aT, if_neg (g _ (by decide +kernel)), <- hfs, aT, if_neg (g _ (by decide +kernel))]
  rfl
end
end Mw
namespace Mw
open PySem L2
section
variable {P : Program} {w : World} {K : PySem.W.Frag} {mg : Str -> Option Value} {base : Heap} {f : Addr} {fd : FuncData} {nf C ns : Addr} {C_Corral X_NoFraction X_NoSide X_MendError X_OneSide X_NoPoint X_NoRow X_NotParted X_NoTable X_NoText X_TooMany X_WrongBook : Addr}
theorem nC : FnScope ["self"] ["self"] (aG (mem 28 1)) := ⟨rfl, rfl, rfl, by decide +kernel, rfl, by decide +kernel, by decide +kernel⟩
theorem nG (F : Fun K "chosen" "Corral.chosen" (mem 28 1) f fd) (T : Txt BN mg) (CT : CTx K C) : FnOk P w K mg base CX0 1 f fd ["self"] (i6 K C) := by
 refine F.ok nC (fun vs H Q E h => ?_) (fun cdv A outer s H vs Q E hr h => ?_)
 ·obtain ⟨a, va, ps, tab, D, as, rfl, _⟩ := h
  rfl
 obtain ⟨a, va, ps, tab, D, as, rfl, hC, hV, hp, hl, q⟩ := h
 refine ⟨_, (aH (aU (bQ (sc := aG (mem 28 1)) (N := ["self"]) (NB := ["place", "self"]) (fr := [none, some 0]) rfl (by decide +kernel) (bD (cS (pv 0) rfl)) (fun _ _ _ _ => (aM (i := 0) (show (["place", "self"] : List Str).Nodup by decide +kernel) rfl (Or.inl rfl))) (fun _ _ _ _ => .nil) (fun _ _ _ _ => (bC (bE (K := K) rfl) (pe_fldK (K := K) rfl (pv 1) rfl) (pv 0) (fun _ _ => rfl)))))), ?_⟩
 obtain ⟨dx, fs, pa, ia, la, e, F1, h1, h2, h3⟩ := hC.ex
 refine ⟨_, rfl, a, C, dx, fs, _, rfl, e, CT.cl, CT.places, F1.places, pa, rfl, ⟨_, SqL.of h1⟩, fun D1 hD1 => ?_⟩
 refine aZ (xs := numsV ps) (fun _ i y => ∃ p, ps[i]? = some p /\ y = .ref (as.getD p 0)) (fun _ _ _ _ _ h => h) (SqL.of h1) (by rw [List.length_map]; exact Nat.le_of_lt (aN (by omega))) hD1 ?_ ?_
 ·rintro i x H' R hx s1 hDn hq
  obtain ⟨p, hp1, rfl⟩ := aS (g := fun n : Nat => V.int (n : Int)) hx
  have hpl := hp p (List.mem_of_getElem? hp1)
  have hat : atI (as.map V.ref) (p : Int) = some (.ref (as.getD p 0)) := bW (by rw [List.getElem?_map, List.getD_eq_getElem?_getD, List.getElem?_eq_getElem hpl]; rfl)
  refine ⟨wk1 rfl, ?_⟩
  exact ⟨_, rfl, a, C, dx, fs, _, rfl, s1 _ _ e, CT.cl, CT.vectors, F1.vectors, _, rfl, va, _, _, _, rfl, rfl, s1.seq hV, hat, hq _ _ (Same.refl _) ⟨p, hp1, rfl⟩⟩
 ·rintro ys H' s1 hL hyl hy
  refine q D1 H' s1 hD1 ?_
  rw [hL]
  congr 2
  rw [List.map_map]
  refine dG (by rw [hyl, List.length_map]) fun j y r hj hr => ?_
  obtain ⟨p, g1, g2⟩ := hy j y hj
  rw [hr] at g1
  cases g1
  exact g2
end
end Mw
namespace Mw
open PySem L2
section
variable {P : Program} {w : World} {K : PySem.W.Frag} {mg : Str -> Option Value} {base : Heap} {f : Addr} {fd : FuncData} {nf C ns : Addr} {C_Corral X_NoFraction X_NoSide X_MendError X_OneSide X_NoPoint X_NoRow X_NotParted X_NoTable X_NoText X_TooMany X_WrongBook : Addr}
theorem cQ : FnScope ["self", "place", "vector", "column", "image", "grown", "lines", "line", "times"] ["self", "place"] (aG (mem 28 2)) := ⟨rfl, rfl, rfl, by decide +kernel, rfl, by decide +kernel, by decide +kernel⟩
theorem pI (F : Fun K "take" "Corral.take" (mem 28 2) f fd) (T : Txt BN mg) (CT : CTx K C) (m_chosen : MCal P w K mg base 1 (fun X => X = C) "chosen" ["self"] (i6 K C)) (c_product : Cal P w K mg base 1 "product" ["one", "other"] (iX K)) (c_square : Cal P w K mg base 2 "square" ["one"] (jN K)) (c_combined : Cal P w K mg base 1 "combined" ["one", "times", "other", "other_times", "divisor"] (nZ K)) : FnOk P w K mg base CX0 3 f fd ["self", "place"] (lF K C) := by
 refine F.ok cQ (fun vs H Q E h => ?_) (fun cdv A outer s H vs Q E hr h => ?_)
 ·obtain ⟨a, va, as, vs, ps, d, e, j, rfl, _⟩ := h
  rfl
 obtain ⟨a, va, as, vs, ps, d, e, j, rfl, hC, hV, hPl, hj, hD, hD', q⟩ := h
 refine ⟨_, (aD (aP (i := 2) cQ.nd rfl (Or.inr rfl) (bC (bE (K := K) rfl) (cS (pv 0) rfl) (pv 1) (fun _ _ => rfl)))
   (aD (aP (i := 3) cQ.nd rfl (Or.inr rfl) (bQ (sc := aG (mem 28 2)) (N := ["self", "place", "vector", "column", "image", "grown", "lines", "line", "times"]) (NB := ["other", "vector"]) (fr := [none, some 2]) rfl (by decide +kernel) (bD (jR (pv 0) m_chosen (hr.mono (by decide)) cC)) (fun _ _ _ _ => (aM (i := 0) (show (["other", "vector"] : List Str).Nodup by decide +kernel) rfl (Or.inl rfl))) (fun _ _ _ _ => .nil) (fun _ _ _ _ => (aJ cB (aR c_product (hr.mono (by decide)) rfl (aA (pv 0) (aA (pv 1) aB))) aE))))
   (aD (dU (i := 4) cQ.nd rfl rfl (sc := aG (mem 28 2)) (N := ["self", "place", "vector", "column", "image", "grown", "lines", "line", "times"]) (NB := ["line", "column"]) (fr := [none, some 3]) rfl (by decide +kernel) (bD (cS (pv 0) rfl)) (fun _ _ _ _ => (aM (i := 0) (show (["line", "column"] : List Str).Nodup by decide +kernel) rfl (Or.inl rfl))) (fun _ _ _ _ => .nil) (fun _ _ _ _ => (aR c_product (hr.mono (by decide)) rfl (aA (pv 0) (aA (pv 1) aB)))))
   (aD (cW (aP (i := 5) cQ.nd rfl (Or.inl rfl) (aJ fQ (aJ bK (cS (pv 0) rfl) (aJ cB (aR c_square (hr.mono (by decide)) rfl (aA (pv 2) aB)) aE)) (aR c_product (hr.mono (by decide)) rfl (aA (pv 3) (aA (pv 4) aB))))))
   (aD (aP (i := 6) cQ.nd rfl (Or.inl rfl) (bO aB))
   (aD (cI PassesOwn.never rfl (fN rfl (T.nb "zip" (by decide)) (aA (cS (pv 0) rfl) (aA (pv 4) aB))) (cG (K := K) (n := 2) rfl rfl (aW (aM (i := 7) cQ.nd rfl (Or.inl rfl)) (aW (aM (i := 8) cQ.nd rfl (Or.inl rfl)) cF))) (aH (cE (fI PySem.F.plainAttrs_list PySem.F.slot_list_append PySem.F.type_list_append cX (pv 6) (aA (aJ fB (aR c_combined (hr.mono (by decide)) rfl (aA (pv 7) (aA (pv 5) (aA (pv 4) (aA (pv 8) (aA (cS (pv 0) rfl) aB)))))) (bO (aA (gT eZ (pv 8)) aB))) aB)))))
   (aD (cE (fI PySem.F.plainAttrs_list PySem.F.slot_list_append PySem.F.type_list_append cX (pv 6) (aA (aJ fB (bQ (sc := aG (mem 28 2)) (N := ["self", "place", "vector", "column", "image", "grown", "lines", "line", "times"]) (NB := ["number"]) (fr := [none]) rfl (by decide +kernel) (bD (pv 4)) (fun _ _ _ _ => (aM (i := 0) (show (["number"] : List Str).Nodup by decide +kernel) rfl (Or.inl rfl))) (fun _ _ _ _ => .nil) (fun _ _ _ _ => (gT eZ (pv 0)))) (bO (aA (cS (pv 0) rfl) aB))) aB)))
   (aD (fM (pv 0) (aJ fB (cS (pv 0) rfl) (bO (aA (pv 1) aB))) rfl)
   (aD (fM (pv 0) (pv 6) rfl)
   (aH (fM (pv 0) (pv 5) rfl))))))))))), ?_⟩
 obtain ⟨dx, fs, pa, ia, la, eA, F1, h1, h2, h3⟩ := hC.ex
 have hk := b5 hPl hD
 have hPl' := hPl.app hj
 have hk' := b5 hPl' hD'
 rw [List.length_append] at hk'
 have hfew := hV.few
 have hdd := hV.dd
 obtain ⟨hvm, hvT, hvA⟩ := hV.get hj
 have hvl := hV.dim _ hvm
 have hvb : ∀ z ∈ vs.getD j [], Bits 9000 z := fun z hz => (hV.vbits hvm hz).mono (by decide)
 have hdetb := hV.det hPl hD
 have hdetb' := hV.det hPl' hD'
 have hpk := hV.picks hPl
 have happ := pick_app vs ps j
 have hcol := hV.col hPl hvm
 have himg := hV.img hPl hD hvm
 have hsqb := hV.sqb hvm
 have htab := fun l hl => hV.tab hPl hD (l := l) hl
 have hdim := gB hV.dim hPl
 have hpl : (aF vs ps).length = ps.length := bF vs ps
 have htl : (cJ d (aF vs ps)).length = ps.length := by rw [gX, hpl]
 have hal := hV.len
 have hgrown := grown_eq (v := vs.getD j []) hdim hvl hD
 rw [happ] at hD' hdetb'
 have htook := took_eq (v := vs.getD j []) hdim hvl hD hD'
 have hxb : ∀ x ∈ aF vs ps, x.length = d /\ ∀ z ∈ x, Bits 9000 z := fun x hx => ⟨hdim x hx, fun z hz => (hV.vbits (jB hPl hx) hz).mono (by decide)⟩
 have hq : ∀ H', OffD a H H' -> CAt C H' a va (ps ++ [j]) (cJ d (aF vs ps ++ [vs.getD j []])) (cD d (aF vs ps ++ [vs.getD j []])) -> Q .non H' := fun H' o c => q H' o (by show CAt C H' a va (ps ++ [j]) (cJ d (aF vs (ps ++ [j]))) (cD d (aF vs (ps ++ [j]))); rw [happ]; exact c)
 have hVl := hV.lst
 clear q hV
 generalize vs.getD j [] = v at *
 generalize aF vs ps = xs at *
 generalize as.getD j 0 = av at *
 have hat : atI (as.map V.ref) (j : Int) = some (.ref av) := bW (by rw [List.getElem?_map, hvA]; rfl)
 refine ⟨_, rfl, a, C, dx, fs, _, rfl, eA, CT.cl, CT.vectors, F1.vectors, _, rfl, va, _, _, _, rfl, rfl, hVl, hat, ?_⟩
 -- the column
 refine ⟨_, rfl, a, C, dx, fs, rfl, eA, rfl, F1.no _ (by decide +kernel), ⟨_, _, eA⟩, a, va, ps, _, _, as, rfl, hC, hVl, fun p hp => by have := hPl p hp; omega, by omega, fun r0 H1 s1 hr0 hR0 => ?_⟩
 refine ⟨r0, rfl, ⟨_, SqL.of hR0⟩, fun D1 hD1 => ?_⟩
 refine aZ (xs := (ps.map fun p => as.getD p 0).map V.ref) (fun _ i y => ∃ x, xs[i]? = some x /\ y = .int (dot x v + 1)) (fun _ _ _ _ _ h => h) (SqL.of hR0) (by rw [List.length_map, List.length_map]; exact Nat.le_of_lt (aN (by omega))) hD1 ?_ ?_
 ·rintro i x H' R hx s2 hDn hR
  obtain ⟨A, hA1, rfl⟩ := aS hx
  obtain ⟨w, hw, hwT⟩ := paired_get hpk hA1
  have hwb := hxb w (List.mem_of_getElem? hw)
  refine ⟨wk1 rfl, ?_⟩
  refine ⟨_, rfl, _, rfl, A, av, true, true, w, v, rfl, (s1.trans s2).seqT hwT, (s1.trans s2).seqT hvT, by omega, hwb.2, hvb, fun H2 s3 => ?_⟩
  exact ⟨_, _, rfl, rfl, hR _ _ s3 ⟨w, hw, rfl⟩⟩
 rintro ys H2 s2 hL1 hyl hy
 have ey : ys = (gF xs v).map V.int := by
  unfold gF
  rw [List.map_map]
  refine dG (by rw [hyl, List.length_map, List.length_map, hpl]) fun i y r hi hr => ?_
  obtain ⟨x, g1, g2⟩ := hy i y hi
  rw [hr] at g1
  cases g1
  exact g2
 subst ey
 clear hy hyl
 have hcl : (gF xs v).length = ps.length := by unfold gF; rw [List.length_map, hpl]
 have s12 := s1.trans s2
 -- the image
 refine ⟨_, rfl, a, C, dx, fs, _, rfl, s12 _ _ eA, CT.cl, CT.inverse, F1.inverse, ia, rfl, ⟨_, SqL.of (s12 _ _ h2)⟩, fun D2 hD2 => ?_⟩
 refine aZ (xs := la.map V.ref) (fun _ i y => ∃ l, (cJ d xs)[i]? = some l /\ y = .int (dot l (gF xs v))) (fun _ _ _ _ _ h => h) (SqL.of (s12 _ _ h2)) (by rw [List.length_map, Paired.length h3, htl]; exact Nat.le_of_lt (aN (by omega))) hD2 ?_ ?_
 ·rintro i x H' R hx s3 hDn hR
  obtain ⟨A, hA1, rfl⟩ := aS hx
  obtain ⟨l, hl, hlH⟩ := paired_get h3 hA1
  have hlb := htab l (List.mem_of_getElem? hl)
  refine ⟨wk1 rfl, ?_⟩
  refine ⟨_, rfl, _, rfl, A, D1, false, false, l, gF xs v, rfl, SqL.of ((s12.trans s3) _ _ hlH), SqL.of (s3 _ _ hL1), by omega, fun x hx => (hlb.2 x hx).mono (by decide), fun x hx => (hcol x hx).mono (by decide), fun H4 s4 => ?_⟩
  exact hR _ _ s4 ⟨l, hl, rfl⟩
 rintro ys H3 s3 hL2 hyl hy
 have ey : ys = (bU d xs v).map V.int := by
  unfold bU
  rw [List.map_map]
  refine dG (by rw [hyl, List.length_map, Paired.length h3]) fun i y r hi hr => ?_
  obtain ⟨x, g1, g2⟩ := hy i y hi
  rw [hr] at g1
  cases g1
  exact g2
 subst ey
 clear hy hyl
 have hil : (bU d xs v).length = ps.length := by unfold bU; rw [List.length_map, htl]
 have s13 := s12.trans s3
 have hL1' := s3 _ _ hL1
 -- the new determinant
 refine ⟨fun σ H' => σ = [some (.ref a), some (.int j), some (.ref av), some (.ref D1), some (.ref D2), some (.int (cD d (xs ++ [v]))), none, none, none] /\ Same H H' /\ H' D2 = some (.lst ((bU d xs v).map V.int)), ?_, ?_⟩
 ·refine ⟨_, rfl, a, C, dx, fs, _, rfl, s13 _ _ eA, CT.cl, CT.det, F1.det, _, rfl, av, true, v, rfl, s13.seqT hvT, by omega, hvb, fun H4 s4 => ?_⟩
  refine ⟨_, _, rfl, rfl, _, _, rfl, rfl, ⟨2900, by decide, hdetb, hsqb⟩, _, rfl, _, rfl, D1, D2, false, false, gF xs v, bU d xs v, rfl, SqL.of (s4 _ _ hL1'), SqL.of (s4 _ _ hL2), by omega, fun x hx => (hcol x hx).mono (by decide), fun x hx => (himg x hx).mono (by decide), fun H5 s5 => ?_⟩
  refine ⟨_, _, rfl, rfl, ?_, s13.trans (s4.trans s5), (s4.trans s5) _ _ hL2⟩
  rw [hgrown]; rfl
 clear hL1 hL1' hL2 s3 s13 s12 s2 s1 hR0 hr0 hD1 hD2
 rintro σ H4 ⟨rfl, s4, hL2⟩
 refine ⟨(by show 0 <= sizeLine; decide), fun lp hlp => ?_⟩
 have t1 := Same.new hlp (.lst [])
 have hlp0 : H lp = none := s4.free hlp
 have s5 := s4.trans t1
 have hLp : upd H4 lp (.lst []) lp = some (.lst (([] : List Addr).map V.ref)) := aC
 have hD2 : upd H4 lp (.lst []) D2 = some (.lst ((bU d xs v).map V.int)) := t1 _ _ hL2
 have hD2lp : D2 ≠ lp := bH hL2 hlp
 have hia : ia ≠ lp := bH h2 hlp0
 generalize upd H4 lp (.lst []) = H5 at *
 clear hL2 t1 hlp s4
 refine ⟨_, rfl, a, C, dx, fs, _, rfl, s5 _ _ eA, CT.cl, CT.inverse, F1.inverse, _, rfl, false, false, ia, D2, rfl, ⟨_, SqL.of (s5 _ _ h2)⟩, ⟨_, SqL.of hD2⟩, ?_⟩
 refine kF (b1 := false) (b2 := false) (xs := la.map V.ref) (ys := (bU d xs v).map V.int) (fun i σ H' => ∃ (v7 v8 : Option V) (ms : List Addr), σ = [some (.ref a), some (.int j), some (.ref av), some (.ref D1), some (.ref D2), some (.int (cD d (xs ++ [v]))), some (.ref lp), v7, v8] /\ Same H H' /\ H' D2 = some (.lst ((bU d xs v).map V.int)) /\ H' lp = some (.lst (ms.map V.ref)) /\
   LinesOff H' lp ms ((List.zipWith (fun line t => List.zipWith (fun a b => (cD d (xs ++ [v]) * a + t * b) / cD d xs) line (bU d xs v) ++ [-t]) (cJ d xs) (bU d xs v)).take i))
  ⟨none, none, [], rfl, s5, hD2, hLp, .nil⟩
  (fun i σ H' _ ⟨_, _, _, _, s, g, _⟩ => ⟨SqL.of (s _ _ h2), SqL.of g⟩) ?_ ?_
 ·rintro i x y T0 σ H' hx hy hT0 ⟨v7, v8, ms, rfl, s6, hD6, hL6, hM6⟩
  obtain ⟨A, hA1, rfl⟩ := aS hx
  obtain ⟨t, ht1, rfl⟩ := aS hy
  obtain ⟨l, hl, hlH⟩ := paired_get h3 hA1
  have hlb := htab l (List.mem_of_getElem? hl)
  have hmi : ms.length = i := by
   rw [Paired.length hM6, List.length_take, List.length_zipWith, htl, hil]
   have := (List.getElem?_eq_some_iff.mp ht1).1
   omega
  have hin : i < ps.length := by have := (List.getElem?_eq_some_iff.mp ht1).1; omega
  have sT := Same.new hT0 (.tup [.ref A, .int t])
  refine ⟨T0, _, rfl, SqT.of aC, rfl, _, _, rfl, _, _, rfl, rfl, ?_⟩
  have s7 := s6.trans sT
  have hD7 := sT _ _ hD6
  have hL7 := sT _ _ hL6
  have hM7 := hM6.same sT
  generalize upd H' T0 (.tup [.ref A, .int t]) = H7 at *
  refine ⟨_, rfl, .inl ⟨rfl, _, SqL.of hL7⟩, _, rfl, _, rfl, _, rfl, _, rfl, _, rfl, a, C, dx, fs, _, rfl, s7 _ _ eA, CT.cl, CT.det, F1.det, A, D2, l, bU d xs v, cD d (xs ++ [v]), t, cD d xs, rfl, SqL.of (s7 _ _ hlH), SqL.of hD7, by omega, hdetb', himg t (List.mem_of_getElem? ht1), hlb.2, himg, hD, hdetb, fun r1 H8 s8 hr1 hR1 => ?_⟩
  refine ⟨_, rfl, _, rfl, (by show 1 <= sizeLine; decide), fun p1 hp1 => ?_⟩
  have t9 := Same.new hp1 (.lst [.int (-t)])
  refine ⟨r1, p1, _, _, rfl, rfl, t9 _ _ hR1, aC, ?_, fun m hm => ?_⟩
  ·rw [List.length_map, List.length_zipWith, hlb.1, hil]
   exact Nat.le_of_lt (aN (by show min ps.length ps.length + 1 <= 1000; omega))
  have t10 := Same.new hm (.lst ((List.zipWith (fun x y => (cD d (xs ++ [v]) * x + t * y) / cD d xs) l (bU d xs v)).map V.int ++ [.int (-t)]))
  have s10 := s8.trans (t9.trans t10)
  have hmlp : m ≠ lp := fun z => by
   have := t9 _ _ (s8 _ _ hL7)
   rw [<- z, hm] at this
   cases this
  have hmH : upd (upd H8 p1 (.lst [.int (-t)])) m (.lst ((List.zipWith (fun x y => (cD d (xs ++ [v]) * x + t * y) / cD d xs) l (bU d xs v)).map V.int ++ [.int (-t)])) m = some (.lst ((List.zipWith (fun x y => (cD d (xs ++ [v]) * x + t * y) / cD d xs) l (bU d xs v) ++ [-t]).map V.int)) := by
   rw [aC, List.map_append]; rfl
  have hL10 := s10 _ _ hL7
  refine ⟨lp, _, _, rfl, rfl, hL10, by rw [List.length_map, hmi]; exact aN (by omega), ?_⟩
  refine ⟨_, _, ms ++ [m], rfl, (s7.trans s10).upd_old hlp0, by rw [aQ hD2lp]; exact s10 _ _ hD7, by rw [aC, List.map_append]; rfl, ?_⟩
  have hz : (List.zipWith (fun line t => List.zipWith (fun a b => (cD d (xs ++ [v]) * a + t * b) / cD d xs) line (bU d xs v) ++ [-t]) (cJ d xs) (bU d xs v))[i]? = some (List.zipWith (fun x y => (cD d (xs ++ [v]) * x + t * y) / cD d xs) l (bU d xs v) ++ [-t]) := by
   rw [List.getElem?_zipWith, hl, ht1]
  rw [b9 hz]
  exact ((hM7.same s10).snoc hmlp hmH).upd
 rintro σ H6 ⟨v7, v8, ms, rfl, s6, hD6, hL6, hM6⟩
 rw [List.length_map, List.length_map, Paired.length h3, htl, hil, Nat.min_self, List.take_of_length_le (by rw [List.length_zipWith, htl, hil, Nat.min_self]; exact Nat.le_refl _)] at hM6
 have hmi : ms.length = ps.length := by rw [Paired.length hM6, List.length_zipWith, htl, hil, Nat.min_self]
 -- the last line
 refine ⟨_, rfl, .inl ⟨rfl, _, SqL.of hL6⟩, _, rfl, D2, rfl, ⟨_, SqL.of hD6⟩, fun D3 hD3 => ?_⟩
 refine aZ (xs := (bU d xs v).map V.int) (fun _ i y => ∃ t, (bU d xs v)[i]? = some t /\ y = .int (-t)) (fun _ _ _ _ _ h => h) (SqL.of hD6) (by rw [List.length_map, hil]; exact Nat.le_of_lt (aN (by omega))) hD3 ?_ ?_
 ·rintro i x H' R hx s7 hDn hR
  obtain ⟨t, ht, rfl⟩ := aS hx
  exact ⟨c6 (n := 1) rfl, ⟨_, rfl, _, rfl, hR _ _ (Same.refl _) ⟨t, ht, rfl⟩⟩⟩
 rintro ys H7 s7 hL3 hyl hy
 have ey : ys = ((bU d xs v).map (fun z => -z)).map V.int := by
  rw [List.map_map]
  refine dG (by rw [hyl, List.length_map]) fun i y r hi hr => ?_
  obtain ⟨x, g1, g2⟩ := hy i y hi
  rw [hr] at g1
  cases g1
  exact g2
 subst ey
 clear hy hyl
 have s67 := s6.trans s7
 refine ⟨_, rfl, a, C, dx, fs, _, rfl, s67 _ _ eA, CT.cl, CT.det, F1.det, (by show 1 <= sizeLine; decide), fun p1 hp1 => ?_⟩
 have t8 := Same.new hp1 (.lst [.int (cD d xs)])
 refine ⟨D3, p1, _, _, rfl, rfl, t8 _ _ hL3, aC, ?_, fun m hm => ?_⟩
 ·rw [List.length_map, List.length_map, hil]
  exact Nat.le_of_lt (aN (by show ps.length + 1 <= 1000; omega))
 have t9 := Same.new hm (.lst (((bU d xs v).map (fun z => -z)).map V.int ++ [.int (cD d xs)]))
 have s9 := s7.trans (t8.trans t9)
 have hmlp : m ≠ lp := fun z => by
  have := t8 _ _ (s7 _ _ hL6)
  rw [<- z, hm] at this
  cases this
 have hmH : upd (upd H7 p1 (.lst [.int (cD d xs)])) m (.lst (((bU d xs v).map (fun z => -z)).map V.int ++ [.int (cD d xs)])) m = some (.lst (((bU d xs v).map (fun z => -z) ++ [cD d xs]).map V.int)) := by
  rw [aC, List.map_append]; rfl
 have hL9 := s9 _ _ hL6
 refine ⟨lp, _, _, rfl, rfl, hL9, by rw [List.length_map, hmi]; exact aN (by omega), ?_⟩
 have s10 := (s6.trans s9).upd_old (o := .lst (ms.map V.ref ++ [.ref m])) hlp0
 have hM10 := ((hM6.same s9).snoc hmlp hmH).upd (o := .lst (ms.map V.ref ++ [.ref m]))
 rw [<- htook] at hM10
 generalize upd (upd H7 p1 (.lst [.int (cD d xs)])) m (.lst (((bU d xs v).map (fun z => -z)).map V.int ++ [.int (cD d xs)])) = H9 at *
 have hL10 : upd H9 lp (.lst (ms.map V.ref ++ [.ref m])) lp = some (.lst ((ms ++ [m]).map V.ref)) := by rw [aC, List.map_append]; rfl
 generalize upd H9 lp (.lst (ms.map V.ref ++ [.ref m])) = H10 at *
 clear hL9 hmH hL3 hL6 hD6 hM6
 -- the fields
 refine ⟨_, rfl, a, C, dx, fs, _, rfl, s10 _ _ eA, CT.cl, CT.places, F1.places, _, rfl, (by show 1 <= sizeLine; decide), fun p2 hp2 => ?_⟩
 have t11 := Same.new hp2 (.lst [.int (j : Int)])
 refine ⟨pa, p2, _, _, rfl, rfl, t11 _ _ (s10 _ _ h1), aC, ?_, fun np hnp => ?_⟩
 ·rw [List.length_map]
  exact Nat.le_of_lt (aN (by show ps.length + 1 <= 1000; omega))
 have enp : numsV ps ++ [V.int (j : Int)] = numsV (ps ++ [j]) := by simp [numsV]
 rw [enp]
 have t12 := t11.trans (Same.new hnp (.lst (numsV (ps ++ [j]))))
 have hNp : upd (upd H10 p2 (.lst [.int (j : Int)])) np (.lst (numsV (ps ++ [j]))) np = some (.lst (numsV (ps ++ [j]))) := aC
 generalize upd (upd H10 p2 (.lst [.int (j : Int)])) np (.lst (numsV (ps ++ [j]))) = H12 at *
 have s12 := s10.trans t12
 have eA12 := s12 _ _ eA
 have hL12 := t12 _ _ hL10
 have hM12 := hM10.same t12
 have hf10 := F1.few
 refine ⟨_, rfl, a, C, dx, fs, rfl, eA12, CT.cl, CT.places, by omega, ?_⟩
 have l1 := dA "places" (V.ref np) fs
 refine ⟨_, rfl, _, rfl, a, C, dx, _, rfl, aC, CT.cl, CT.inverse, by omega, ?_⟩
 have l2 := dA "inverse" (V.ref lp) (bI "places" (V.ref np) fs)
 refine ⟨_, rfl, _, rfl, a, C, dx, _, rfl, aC, CT.cl, CT.det, by omega, ?_⟩
 rw [mG, mG]
 refine hq _ ((OffD.of s12).trans OffD.upd) ⟨⟨dx, _, np, lp, ms ++ [m], aC, F1.set, ?_, ?_, ?_⟩⟩
 ·rw [aQ (fun z => by rw [z, eA12] at hNp; cases hNp)]; exact hNp
 ·rw [aQ (fun z => by rw [z, eA12] at hL12; cases hL12)]; exact hL12
 ·exact hM12.lines.off OffD.upd eA12
end
end Mw
namespace Mw
open PySem L2
section
variable {P : Program} {w : World} {K : PySem.W.Frag} {mg : Str -> Option Value} {base : Heap} {f : Addr} {fd : FuncData} {nf C ns : Addr} {C_Corral X_NoFraction X_NoSide X_MendError X_OneSide X_NoPoint X_NoRow X_NotParted X_NoTable X_NoText X_TooMany X_WrongBook : Addr}
theorem dL : FnScope ["self", "index", "pivot", "shrunk", "lines", "line", "fresh"] ["self", "index"] (aG (mem 28 3)) := ⟨rfl, rfl, rfl, by decide +kernel, rfl, by decide +kernel, by decide +kernel⟩
theorem pJ (F : Fun K "drop" "Corral.drop" (mem 28 3) f fd) (T : Txt BN mg) (CT : CTx K C) (c_combined : Cal P w K mg base 1 "combined" ["one", "times", "other", "other_times", "divisor"] (nZ K)) : FnOk P w K mg base CX0 2 f fd ["self", "index"] (spDrop K C) := by
 refine F.ok dL (fun vs H Q E h => ?_) (fun cdv A outer s H vs Q E hr h => ?_)
 ·obtain ⟨a, va, as, vs, ps, d, e, i, rfl, _⟩ := h
  rfl
 obtain ⟨a, va, as, vs, ps, d, e, i, rfl, hC, hV, hPl, hi, hD, q⟩ := h
 refine ⟨_, (aD (aP (i := 2) dL.nd rfl (Or.inl rfl) (bC (bE (K := K) rfl) (cS (pv 0) rfl) (pv 1) (fun _ _ => rfl)))
   (aD (aP (i := 3) dL.nd rfl (Or.inl rfl) (bC (bE (K := K) rfl) (pv 2) (pv 1) (fun _ _ => rfl)))
   (aD (aP (i := 4) dL.nd rfl (Or.inl rfl) (bO aB))
   (aD (cI PassesOwn.never rfl (bD (aJ fB (dZ (dY (K := K) rfl) (cS (pv 0) rfl) fG (eB (pv 1))) (dZ (dY (K := K) rfl) (cS (pv 0) rfl) (eB (aJ cB (pv 1) aE)) fG))) (aM (i := 5) dL.nd rfl (Or.inl rfl)) (aD (aP (i := 6) dL.nd rfl (Or.inl rfl) (aR c_combined (hr.mono (by decide)) rfl (aA (pv 5) (aA (pv 3) (aA (pv 2) (aA (gT eZ (bC (bE (K := K) rfl) (pv 5) (pv 1) (fun _ _ => rfl))) (aA (cS (pv 0) rfl) aB)))))))
   (aH (cE (fI PySem.F.plainAttrs_list PySem.F.slot_list_append PySem.F.type_list_append cX (pv 4) (aA (aJ fB (dZ (dY (K := K) rfl) (pv 6) fG (eB (pv 1))) (dZ (dY (K := K) rfl) (pv 6) (eB (aJ cB (pv 1) aE)) fG)) aB))))))
   (aD (fM (pv 0) (aJ fB (dZ (dY (K := K) rfl) (cS (pv 0) rfl) fG (eB (pv 1))) (dZ (dY (K := K) rfl) (cS (pv 0) rfl) (eB (aJ cB (pv 1) aE)) fG)) rfl)
   (aD (fM (pv 0) (pv 4) rfl)
   (aH (fM (pv 0) (pv 3) rfl)))))))), ?_⟩
 obtain ⟨dx, fs, pa, ia, la, eA, F1, h1, h2, h3⟩ := hC.ex
 have hk := b5 hPl hD
 have hfew := hV.few
 have hpl : (aF vs ps).length = ps.length := bF vs ps
 have htl : (cJ d (aF vs ps)).length = ps.length := by rw [gX, hpl]
 have hll : la.length = ps.length := by rw [Paired.length h3, htl]
 have hera := pick_erase vs ps i
 have hdetb := hV.det hPl hD
 have htab := fun l hl => hV.tab hPl hD (l := l) hl
 have hi2 : i < (aF vs ps).length := by omega
 have hless := less_tab hD hi2
 have hlp := nI hD hi2
 have hpiv : (cJ d (aF vs ps))[i]? = some ((List.range (aF vs ps).length).map fun j => cN d (aF vs ps) i j) := m6 hi2
 have hshrb : Bits 2900 (cD d ((aF vs ps).eraseIdx i)) := by rw [<- hera]; exact hV.det (hPl.erase i) (by rw [hera]; exact hlp.1)
 have hq : ∀ H', OffD a H H' -> CAt C H' a va (ps.eraseIdx i) (cJ d ((aF vs ps).eraseIdx i)) (cD d ((aF vs ps).eraseIdx i)) -> Q .non H' := fun H' o c => q H' o (by show CAt C H' a va (ps.eraseIdx i) (cJ d (aF vs (ps.eraseIdx i))) (cD d (aF vs (ps.eraseIdx i))); rw [hera]; exact c)
 clear q hV hera
 generalize aF vs ps = xs at *
 have epv : ((List.range xs.length).map fun j => cN d xs i j)[i]? = some (cN d xs i i) := by rw [List.getElem?_map, List.getElem?_range hi2]; rfl
 generalize hpv : ((List.range xs.length).map fun j => cN d xs i j) = pv at *
 have hpvb := htab pv (List.mem_of_getElem? hpiv)
 obtain ⟨A0, hA0, hA0H⟩ := paired_get' h3 hpiv
 have hat : atI (la.map V.ref) (i : Int) = some (.ref A0) := bW (by rw [List.getElem?_map, hA0]; rfl)
 refine ⟨_, rfl, a, C, dx, fs, _, rfl, eA, CT.cl, CT.inverse, F1.inverse, _, rfl, ia, _, _, _, rfl, rfl, SqL.of h2, hat, ?_⟩
 have hat2 : atI (pv.map V.int) (i : Int) = some (.int (cD d (xs.eraseIdx i))) := bW (by rw [List.getElem?_map, epv, hlp.2]; rfl)
 refine ⟨_, rfl, _, rfl, A0, _, _, _, rfl, rfl, SqL.of hA0H, hat2, ?_⟩
 refine ⟨(by show 0 <= sizeLine; decide), fun lp hlp0 => ?_⟩
 have s1 := Same.new hlp0 (.lst [])
 have hLp : upd H lp (.lst []) lp = some (.lst (([] : List Addr).map V.ref)) := aC
 generalize upd H lp (.lst []) = H1 at *
 -- the other lines
 refine ⟨_, rfl, a, C, dx, fs, _, rfl, s1 _ _ eA, CT.cl, CT.inverse, F1.inverse, _, rfl, _, rfl, ia, _, rfl, SqL.of (s1 _ _ h2), fun p1 hp1 => ?_⟩
 have t1 := Same.new hp1 (.lst (cP (la.map V.ref) none (some (i : Int))))
 have hP1 : upd H1 p1 (.lst (cP (la.map V.ref) none (some (i : Int)))) p1 = some (.lst ((la.take i).map V.ref)) := by rw [aC, gZ, nQ la (by omega) (by omega), Int.toNat_natCast]
 generalize upd H1 p1 (.lst (cP (la.map V.ref) none (some (i : Int)))) = H2 at *
 have s2 := s1.trans t1
 refine ⟨_, rfl, a, C, dx, fs, _, rfl, s2 _ _ eA, CT.cl, CT.inverse, F1.inverse, _, rfl, _, _, rfl, rfl, (i : Int) + 1, rfl, ia, _, rfl, SqL.of (s2 _ _ h2), fun p2 hp2 => ?_⟩
 have t2 := Same.new hp2 (.lst (cP (la.map V.ref) (some ((i : Int) + 1)) none))
 have hP2 : upd H2 p2 (.lst (cP (la.map V.ref) (some ((i : Int) + 1)) none)) p2 = some (.lst ((la.drop (i + 1)).map V.ref)) := by rw [aC, gZ, kS la (by omega) (by omega), show ((i : Int) + 1).toNat = i + 1 by omega]
 have hP1' := t2 _ _ hP1
 generalize upd H2 p2 (.lst (cP (la.map V.ref) (some ((i : Int) + 1)) none)) = H3 at *
 refine ⟨p1, p2, _, _, rfl, rfl, hP1', hP2, ?_, fun p3 hp3 => ?_⟩
 ·rw [List.length_map, List.length_map, List.length_take, List.length_drop]
  exact Nat.le_of_lt (aN (by omega))
 have eL : (la.take i).map V.ref ++ (la.drop (i + 1)).map V.ref = (la.eraseIdx i).map V.ref := by rw [List.eraseIdx_eq_take_drop_succ, List.map_append]
 rw [eL]
 have t3 := Same.new hp3 (.lst ((la.eraseIdx i).map V.ref))
 have hP3 : upd H3 p3 (.lst ((la.eraseIdx i).map V.ref)) p3 = some (.lst ((la.eraseIdx i).map V.ref)) := aC
 have s3 := s2.trans (t2.trans t3)
 have hLp3 := (t1.trans (t2.trans t3)) _ _ hLp
 generalize upd H3 p3 (.lst ((la.eraseIdx i).map V.ref)) = H4 at *
 have hp3lp : p3 ≠ lp := fun z => by rw [z] at hp3; have := (t1.trans t2) _ _ hLp; rw [hp3] at this; cases this
 have hlep : Paired (fun l x => H l = some (.lst (x.map V.int))) (la.eraseIdx i) ((cJ d xs).eraseIdx i) := lQ h3 i
 have hlel : (la.eraseIdx i).length + 1 = ps.length := by rw [List.length_eraseIdx, if_pos (by omega)]; omega
 refine ⟨p3, rfl, ⟨_, SqL.of hP3⟩, ?_⟩
 refine dO (xs := (la.eraseIdx i).map V.ref) (fun k σ H' => ∃ (v5 v6 : Option V) (ms : List Addr), σ = [some (.ref a), some (.int i), some (.ref A0), some (.int (cD d (xs.eraseIdx i))), some (.ref lp), v5, v6] /\ Same H H' /\ H' p3 = some (.lst ((la.eraseIdx i).map V.ref)) /\ H' lp = some (.lst (ms.map V.ref)) /\
   LinesOff H' lp ms ((((cJ d xs).eraseIdx i).map fun line => (List.zipWith (fun a b => (cD d (xs.eraseIdx i) * a + -line.getD i 0 * b) / cD d xs) line pv).eraseIdx i).take k))
  ⟨none, none, [], rfl, s3, hP3, hLp3, .nil⟩ (fun k σ H' _ ⟨_, _, _, _, _, g, _⟩ => SqL.of g) ?_ ?_
 ·rintro k x σ H' hx ⟨v5, v6, ms, rfl, s6, hG6, hL6, hM6⟩
  obtain ⟨A, hA1, rfl⟩ := aS hx
  obtain ⟨l, hl, hlH⟩ := paired_get hlep hA1
  have hlm : l ∈ cJ d xs := List.mem_of_mem_eraseIdx (List.mem_of_getElem? hl)
  have hlb := htab l hlm
  have hkl := (List.getElem?_eq_some_iff.mp hA1).1
  have hmi : ms.length = k := by
   rw [Paired.length hM6, List.length_take, List.length_map, <- Paired.length hlep]; omega
  have hli : l[i]? = some (l.getD i 0) := by rw [List.getD_eq_getElem?_getD, List.getElem?_eq_getElem (by omega)]; rfl
  have hat3 : atI (l.map V.int) (i : Int) = some (.int (l.getD i 0)) := bW (by rw [List.getElem?_map, hli]; rfl)
  have hlib : Bits 2900 (-l.getD i 0) := (hlb.2 _ (List.mem_of_getElem? hli)).neg
  refine ⟨_, rfl, _, rfl, _, rfl, _, rfl, _, rfl, A, _, _, _, rfl, rfl, SqL.of (s6 _ _ hlH), hat3, _, rfl, _, rfl, a, C, dx, fs, _, rfl, s6 _ _ eA, CT.cl, CT.det, F1.det, A, A0, l, pv, cD d (xs.eraseIdx i), -l.getD i 0, cD d xs, rfl, SqL.of (s6 _ _ hlH), SqL.of (s6 _ _ hA0H), by omega, hshrb, hlib, hlb.2, hpvb.2, hD, hdetb, fun r1 H7 s7 hr1 hR1 => ?_⟩
  generalize hfr : List.zipWith (fun x y => (cD d (xs.eraseIdx i) * x + -l.getD i 0 * y) / cD d xs) l pv = fr at *
  have hfl : fr.length = ps.length := by rw [<- hfr, List.length_zipWith, hlb.1, hpvb.1, Nat.min_self]
  have hL7 := s7 _ _ hL6
  refine ⟨_, rfl, .inl ⟨rfl, _, SqL.of hL7⟩, _, rfl, _, rfl, _, rfl, r1, _, rfl, SqL.of hR1, fun q1 hq1 => ?_⟩
  have u1 := Same.new hq1 (.lst (cP (fr.map V.int) none (some (i : Int))))
  have hQ1 : upd H7 q1 (.lst (cP (fr.map V.int) none (some (i : Int)))) q1 = some (.lst ((fr.take i).map V.int)) := by rw [aC, gZ, nQ fr (by omega) (by omega), Int.toNat_natCast]
  generalize upd H7 q1 (.lst (cP (fr.map V.int) none (some (i : Int)))) = H8 at *
  refine ⟨_, rfl, _, rfl, _, _, rfl, rfl, (i : Int) + 1, rfl, r1, _, rfl, SqL.of (u1 _ _ hR1), fun q2 hq2 => ?_⟩
  have u2 := Same.new hq2 (.lst (cP (fr.map V.int) (some ((i : Int) + 1)) none))
  have hQ2 : upd H8 q2 (.lst (cP (fr.map V.int) (some ((i : Int) + 1)) none)) q2 = some (.lst ((fr.drop (i + 1)).map V.int)) := by rw [aC, gZ, kS fr (by omega) (by omega), show ((i : Int) + 1).toNat = i + 1 by omega]
  have hQ1' := u2 _ _ hQ1
  generalize upd H8 q2 (.lst (cP (fr.map V.int) (some ((i : Int) + 1)) none)) = H9 at *
  refine ⟨q1, q2, _, _, rfl, rfl, hQ1', hQ2, ?_, fun m hm => ?_⟩
  ·rw [List.length_map, List.length_map, List.length_take, List.length_drop]
   exact Nat.le_of_lt (aN (by omega))
  have eF : (fr.take i).map V.int ++ (fr.drop (i + 1)).map V.int = (fr.eraseIdx i).map V.int := by rw [List.eraseIdx_eq_take_drop_succ, List.map_append]
  rw [eF]
  have u3 := Same.new hm (.lst ((fr.eraseIdx i).map V.int))
  have s9 := s7.trans (u1.trans (u2.trans u3))
  have hmlp : m ≠ lp := fun z => by
   have := (u1.trans u2) _ _ hL7
   rw [<- z, hm] at this
   cases this
  have hmH : upd H9 m (.lst ((fr.eraseIdx i).map V.int)) m = some (.lst ((fr.eraseIdx i).map V.int)) := aC
  generalize upd H9 m (.lst ((fr.eraseIdx i).map V.int)) = H10 at *
  have hL10 := s9 _ _ hL6
  refine ⟨lp, _, _, rfl, rfl, hL10, by rw [List.length_map, hmi]; exact aN (by omega), ?_⟩
  refine ⟨_, _, ms ++ [m], rfl, (s6.trans s9).upd_old hlp0, by rw [aQ hp3lp]; exact s9 _ _ hG6, by rw [aC, List.map_append]; rfl, ?_⟩
  have hz : (((cJ d xs).eraseIdx i).map fun line => (List.zipWith (fun a b => (cD d (xs.eraseIdx i) * a + -line.getD i 0 * b) / cD d xs) line pv).eraseIdx i)[k]? = some (fr.eraseIdx i) := by
   rw [List.getElem?_map, hl, <- hfr]; rfl
  rw [b9 hz]
  exact ((hM6.same s9).snoc hmlp hmH).upd
 rintro σ H6 ⟨v5, v6, ms, rfl, s6, hG6, hL6, hM6⟩
 rw [List.length_map, Paired.length hlep, List.take_of_length_le (by rw [List.length_map]; exact Nat.le_refl _), <- hless] at hM6
 -- the fields
 refine ⟨_, rfl, a, C, dx, fs, _, rfl, s6 _ _ eA, CT.cl, CT.places, F1.places, _, rfl, _, rfl, pa, _, rfl, SqL.of (s6 _ _ h1), fun q1 hq1 => ?_⟩
 have u1 := Same.new hq1 (.lst (cP (numsV ps) none (some (i : Int))))
 have hQ1 : upd H6 q1 (.lst (cP (numsV ps) none (some (i : Int)))) q1 = some (.lst (numsV (ps.take i))) := by rw [aC, gZ, nQ ps (by omega) (by omega), Int.toNat_natCast]
 generalize upd H6 q1 (.lst (cP (numsV ps) none (some (i : Int)))) = H7 at *
 have s7 := s6.trans u1
 refine ⟨_, rfl, a, C, dx, fs, _, rfl, s7 _ _ eA, CT.cl, CT.places, F1.places, _, rfl, _, _, rfl, rfl, (i : Int) + 1, rfl, pa, _, rfl, SqL.of (s7 _ _ h1), fun q2 hq2 => ?_⟩
 have u2 := Same.new hq2 (.lst (cP (numsV ps) (some ((i : Int) + 1)) none))
 have hQ2 : upd H7 q2 (.lst (cP (numsV ps) (some ((i : Int) + 1)) none)) q2 = some (.lst (numsV (ps.drop (i + 1)))) := by rw [aC, gZ, kS ps (by omega) (by omega), show ((i : Int) + 1).toNat = i + 1 by omega]
 have hQ1' := u2 _ _ hQ1
 generalize upd H7 q2 (.lst (cP (numsV ps) (some ((i : Int) + 1)) none)) = H8 at *
 refine ⟨q1, q2, _, _, rfl, rfl, hQ1', hQ2, ?_, fun np hnp => ?_⟩
 ·rw [List.length_map, List.length_map, List.length_take, List.length_drop]
  exact Nat.le_of_lt (aN (by omega))
 have eN : numsV (ps.take i) ++ numsV (ps.drop (i + 1)) = numsV (ps.eraseIdx i) := by rw [List.eraseIdx_eq_take_drop_succ]; exact (List.map_append ..).symm
 rw [eN]
 have u3 := Same.new hnp (.lst (numsV (ps.eraseIdx i)))
 have hNp : upd H8 np (.lst (numsV (ps.eraseIdx i))) np = some (.lst (numsV (ps.eraseIdx i))) := aC
 generalize upd H8 np (.lst (numsV (ps.eraseIdx i))) = H12 at *
 have t12 := u1.trans (u2.trans u3)
 have s12 := s6.trans t12
 have eA12 := s12 _ _ eA
 have hL12 := t12 _ _ hL6
 have hM12 := hM6.same t12
 have hf10 := F1.few
 refine ⟨_, rfl, a, C, dx, fs, rfl, eA12, CT.cl, CT.places, by omega, ?_⟩
 have l1 := dA "places" (V.ref np) fs
 refine ⟨_, rfl, _, rfl, a, C, dx, _, rfl, aC, CT.cl, CT.inverse, by omega, ?_⟩
 have l2 := dA "inverse" (V.ref lp) (bI "places" (V.ref np) fs)
 refine ⟨_, rfl, _, rfl, a, C, dx, _, rfl, aC, CT.cl, CT.det, by omega, ?_⟩
 rw [mG, mG]
 refine hq _ ((OffD.of s12).trans OffD.upd) ⟨⟨dx, _, np, lp, ms, aC, F1.set, ?_, ?_, ?_⟩⟩
 ·rw [aQ (fun z => by rw [z, eA12] at hNp; cases hNp)]; exact hNp
 ·rw [aQ (fun z => by rw [z, eA12] at hL12; cases hL12)]; exact hL12
 ·exact hM12.lines.off OffD.upd eA12
end
end Mw
namespace Mw
open PySem L2
section
variable {P : Program} {w : World} {K : PySem.W.Frag} {mg : Str -> Option Value} {base : Heap} {f : Addr} {fd : FuncData} {nf C ns : Addr} {C_Corral X_NoFraction X_NoSide X_MendError X_OneSide X_NoPoint X_NoRow X_NotParted X_NoTable X_NoText X_TooMany X_WrongBook : Addr}
theorem fK : FnScope ["self", "tops", "index"] ["self", "tops"] (aG (mem 28 4)) := ⟨rfl, rfl, rfl, by decide +kernel, rfl, by decide +kernel, by decide +kernel⟩
theorem j7 (F : Fun K "drop_noughts" "Corral.drop_noughts" (mem 28 4) f fd) (T : Txt BN mg) (CT : CTx K C) (m_drop : MCal P w K mg base 2 (fun X => X = C) "drop" ["self", "index"] (spDrop K C)) : FnOk P w K mg base CX0 3 f fd ["self", "tops"] (mJ K C) := by
 refine F.ok fK (fun vs H Q E h => ?_) (fun cdv A outer s H vs Q E hr h => ?_)
 ·obtain ⟨a, va, t, as, vs, ps, es, d, e, rfl, _⟩ := h
  rfl
 obtain ⟨a, va, t, as, vs, ps, es, d, e, rfl, hC, hV, hPl, hD, hT, hel, q⟩ := h
 refine ⟨_, (aD (cI PassesOwn.never rfl (pi_range3 rfl (T.nb "range" (by decide)) (aA (aJ fQ (aY (cZ (K := K) rfl) rfl (T.nb "len" (by decide)) (by decide +kernel) (aA (pv 1) aB)) aE) (aA (gT eZ aE) (aA (gT eZ aE) aB)))) (aM (i := 2) fK.nd rfl (Or.inl rfl)) (aH (b8 (bB dH (bC (bE (K := K) rfl) (pv 1) (pv 2) (fun _ _ => rfl)) aE (bA _)) (aH (cE (kP (pv 0) m_drop (hr.mono (by decide)) cC (aA (pv 2) aB)))) bJ)))
   (aH (aU (bQ (sc := aG (mem 28 4)) (N := ["self", "tops", "index"]) (NB := ["top"]) (fr := [none]) rfl (by decide +kernel) (bD (pv 1)) (fun _ _ _ _ => (aM (i := 0) (show (["top"] : List Str).Nodup by decide +kernel) rfl (Or.inl rfl))) (fun _ _ _ _ => .one (bB oM (pv 0) aE (bA _))) (fun _ _ _ _ => (pv 0)))))), ?_⟩
 have hk := b5 hPl hD
 have hfew := hV.few
 obtain ⟨dx0, fs0, pa0, ia0, la0, eA0, F10, _, _, _⟩ := hC.ex
 refine ⟨_, rfl, t, _, rfl, .inl hT, _, _, rfl, rfl, _, rfl, _, rfl, ((es.map V.int).length : Int) - 1, rfl, by omega, by rw [List.length_map]; omega, ?_⟩
 have eN : (((es.map V.int).length : Int) - 1 + 1).toNat = es.length := by rw [List.length_map]; omega
 rw [eN]
 refine for_down (n := es.length) (fun k σ H' => ∃ (v2 : Option V), σ = [some (.ref a), some (.ref t), v2] /\ OffD a H H' /\ CRt C d H' a va vs (cR (es.length - k) ps es)) ⟨none, rfl, OffD.refl, ?_⟩ ?_ ?_
 ·show CAt C H a va (cR (es.length - 0) ps es) (cJ d (aF vs (cR (es.length - 0) ps es))) (cD d (aF vs (cR (es.length - 0) ps es)))
  rw [Nat.sub_zero, hel, qH ps es hel.symm]; exact hC
 ·rintro k σ H' hkl ⟨v2, rfl, o, hC'⟩
  have hlt : es.length - (k + 1) < es.length := by omega
  obtain ⟨x, hx⟩ : ∃ x, es[es.length - (k + 1)]? = some x := ⟨_, List.getElem?_eq_getElem hlt⟩
  have eI : ((es.map V.int).length : Int) - 1 - (k : Int) = ((es.length - (k + 1) : Nat) : Int) := by rw [List.length_map]; omega
  have hat : atI (es.map V.int) (((es.map V.int).length : Int) - 1 - (k : Int)) = some (.int x) := by rw [eI]; exact bW (by rw [List.getElem?_map, hx]; rfl)
  have eS : es.length - k = (es.length - (k + 1)) + 1 := by omega
  have hip : es.length - (k + 1) < ps.length := by omega
  rw [eS] at hC'
  refine ⟨_, rfl, _, rfl, t, _, _, _, rfl, rfl, o.seq eA0 hT, hat, rfl, _, rfl, ?_⟩
  refine c9 (fun z => ?_) (fun z => ?_)
  ·have z0 : x = 0 := by have : V.int x = V.int 0 := z; injection this
   subst z0
   obtain ⟨dx, fs, pa, ia, la, eA, F1, h1, h2, h3⟩ := hC'.ex
   have hpos : 0 < cD d (aF vs (cR (es.length - (k + 1) + 1) ps es)) := by
    have := lO (d := d) (xs := aF vs ps) (es := es) (by rw [bF]; exact hel.symm) hD (n := k) (i := es.length - (k + 1) + 1) (by rw [bF]; omega)
    unfold aF at this ⊢
    rw [partK_map] at this; exact this
   have hpl2 : Pl vs (cR (es.length - (k + 1) + 1) ps es) := fun p hp => by
    unfold cR at hp
    rcases List.mem_append.mp hp with y | y
    ·exact hPl p (List.mem_of_mem_take y)
    ·exact hPl p (List.mem_of_mem_drop (jE y))
   refine ⟨_, rfl, a, C, dx, fs, rfl, eA, rfl, F1.no _ (by decide +kernel), _, rfl, ⟨_, _, eA⟩, a, va, as, vs, cR (es.length - (k + 1) + 1) ps es, d, e, es.length - (k + 1), by rw [eI], hC', hV.off o eA0, hpl2, qG hip, hpos, fun H2 o2 hC2 => ?_⟩
   refine ⟨_, rfl, o.trans o2, ?_⟩
   rw [oK hip hx]; exact hC2
  ·have z0 : x ≠ 0 := fun y => z (by show V.int x = V.int 0; rw [y])
   refine ⟨_, rfl, o, ?_⟩
   rw [oJ hip hx z0]; exact hC'
 ·rintro σ H' ⟨v2, rfl, o, hC'⟩
  rw [Nat.sub_self, oI] at hC'
  have hT' := o.seq eA0 hT
  obtain ⟨dx, fs, pa, ia, la, eA, _⟩ := hC'.ex
  refine ⟨_, rfl, t, rfl, ⟨_, hT'⟩, fun D1 hD1 => ?_⟩
  refine dP (xs := es.map V.int) (fun k => decide (es.getD k 0 ≠ 0)) (fun k => .int (es.getD k 0)) hT' (by rw [List.length_map]; exact Nat.le_of_lt (aN (by omega))) hD1 ?_ ?_
  ·rintro k x H2 R R' hx s1 hR hR'
   obtain ⟨z, hz, rfl⟩ := aS hx
   have ez : es.getD k 0 = z := by rw [List.getD_eq_getElem?_getD, hz]; rfl
   rw [ez] at hR hR'
   refine ⟨c6 (n := 1) rfl, ⟨_, rfl, rfl, _, rfl, ?_⟩⟩
   refine oP (fun y => ?_) (fun y => ?_)
   ·exact ⟨_, rfl, hR (decide_eq_true fun w => y (by rw [w])) _ (Same.refl _)⟩
   ·have y0 : z = 0 := by injection y
    exact hR' (decide_eq_false fun w => w y0) _ (Same.refl _)
  ·rintro H2 s1 hL
   refine q D1 H2 (o.trans (OffD.of s1)) (hC'.same s1) ?_
   rw [hL, picked_ints, List.length_map]
   rw [l7]
end
end Mw
namespace Mw
open PySem L2
section
variable {P : Program} {w : World} {K : PySem.W.Frag} {mg : Str -> Option Value} {base : Heap} {f : Addr} {fd : FuncData} {nf C ns : Addr} {C_Corral X_NoFraction X_NoSide X_MendError X_OneSide X_NoPoint X_NoRow X_NotParted X_NoTable X_NoText X_TooMany X_WrongBook : Addr}
theorem lC : FnScope ["self"] ["self"] (aG (mem 28 5)) := ⟨rfl, rfl, rfl, by decide +kernel, rfl, by decide +kernel, by decide +kernel⟩
theorem lD (F : Fun K "flat_tops" "Corral.flat_tops" (mem 28 5) f fd) (T : Txt BN mg) (CT : CTx K C) : FnOk P w K mg base CX0 1 f fd ["self"] (mI C) := by
 refine F.ok lC (fun vs H Q E h => ?_) (fun cdv A outer s H vs Q E hr h => ?_)
 ·obtain ⟨a, va, ps, tab, D, rfl, _⟩ := h
  rfl
 obtain ⟨a, va, ps, tab, D, rfl, hC, hl, q⟩ := h
 refine ⟨_, (aH (aU (bQ (sc := aG (mem 28 5)) (N := ["self"]) (NB := ["line"]) (fr := [none]) rfl (by decide +kernel) (bD (cS (pv 0) rfl)) (fun _ _ _ _ => (aM (i := 0) (show (["line"] : List Str).Nodup by decide +kernel) rfl (Or.inl rfl))) (fun _ _ _ _ => .nil) (fun _ _ _ _ => (aY (call_sumK (K := K) rfl rfl) rfl (T.nb "sum" (by decide)) (by decide +kernel) (aA (pv 0) aB)))))), ?_⟩
 obtain ⟨dx, fs, pa, ia, la, e, F1, h1, h2, h3⟩ := hC.ex
 have hll : la.length = tab.length := Paired.length h3
 refine ⟨_, rfl, a, C, dx, fs, _, rfl, e, CT.cl, CT.inverse, F1.inverse, ia, rfl, ⟨_, SqL.of h2⟩, fun D1 hD1 => ?_⟩
 refine aZ (xs := la.map V.ref) (fun _ i y => ∃ l, tab[i]? = some l /\ y = .int l.sum) (fun _ _ _ _ _ h => h) (SqL.of h2) (by rw [List.length_map]; exact Nat.le_of_lt (aN (by omega))) hD1 ?_ ?_
 ·rintro i x H' R hx s1 hDn hq
  obtain ⟨A, hA1, rfl⟩ := aS hx
  obtain ⟨l, hl1, hl2⟩ := paired_get h3 hA1
  refine ⟨c6 (n := 1) rfl, ?_⟩
  exact ⟨_, rfl, A, l, rfl, SqL.of (s1 _ _ hl2), hq _ _ (Same.refl _) ⟨l, hl1, rfl⟩⟩
 ·rintro ys H' s1 hL hyl hy
  refine q D1 H' s1 hD1 ?_
  rw [hL]
  congr 2
  rw [List.map_map]
  refine dG (by rw [hyl, List.length_map]; exact hll) fun j y r hj hr => ?_
  obtain ⟨p, g1, g2⟩ := hy j y hj
  rw [hr] at g1
  cases g1
  exact g2
end
end Mw
namespace Mw
open PySem L2
theorem corrals {P : Program} {w : World} {K : PySem.W.Frag} {mg : Str -> Option Value} {base : Heap} {C_Corral X_MendError X_NoFraction X_NoSide X_OneSide X_NoPoint X_NoRow X_NoTable X_NoText X_NotParted X_TooMany X_WrongBook : Addr} (PR : Prog K mg C_Corral X_MendError X_NoFraction X_NoSide X_OneSide X_NoPoint X_NoRow X_NoTable X_NoText X_NotParted X_TooMany X_WrongBook) (T : Txt BN mg) (c_product : Cal P w K mg base 1 "product" ["one", "other"] (iX K)) (c_square : Cal P w K mg base 2 "square" ["one"] (jN K)) (c_combined : Cal P w K mg base 1 "combined" ["one", "times", "other", "other_times", "divisor"] (nZ K)) :
  CTx K C_Corral /\ MCal P w K mg base 1 (fun X => X = C_Corral) "chosen" ["self"] (i6 K C_Corral) /\ MCal P w K mg base 3 (fun X => X = C_Corral) "take" ["self", "place"] (lF K C_Corral) /\ MCal P w K mg base 3 (fun X => X = C_Corral) "drop_noughts" ["self", "tops"] (mJ K C_Corral) /\ MCal P w K mg base 1 (fun X => X = C_Corral) "flat_tops" ["self"] (mI C_Corral) /\ NCal P w K mg base 1 "Corral" ["self", "vectors"] (kL C_Corral) := by
 have CT : CTx K C_Corral := ⟨PR.c_Corral.cl, PR.n_Corral_vectors, PR.n_Corral_places, PR.n_Corral_inverse, PR.n_Corral_determinant⟩
 have m_chosen : MCal P w K mg base 1 (fun X => X = C_Corral) "chosen" ["self"] (i6 K C_Corral) := ⟨fun X h => by
  subst h
  exact PR.m_Corral_chosen.use PR.c_Corral.cl (fun _ _ _ _ _ _ us hl => match us, hl with | [_], _ => rfl) fun f fd F => (nG F T CT).toX.imp fun _ _ _ _ h => h.2⟩
 have m_take : MCal P w K mg base 3 (fun X => X = C_Corral) "take" ["self", "place"] (lF K C_Corral) := ⟨fun X h => by
  subst h
  exact PR.m_Corral_take.use PR.c_Corral.cl (fun _ _ _ _ _ _ us hl => match us, hl with | [_, _], _ => rfl) fun f fd F => (pI F T CT m_chosen c_product c_square c_combined).toX.imp fun _ _ _ _ h => h.2⟩
 have m_drop : MCal P w K mg base 2 (fun X => X = C_Corral) "drop" ["self", "index"] (spDrop K C_Corral) := ⟨fun X h => by
  subst h
  exact PR.m_Corral_drop.use PR.c_Corral.cl (fun _ _ _ _ _ _ us hl => match us, hl with | [_, _], _ => rfl) fun f fd F => (pJ F T CT c_combined).toX.imp fun _ _ _ _ h => h.2⟩
 have m_drop_noughts : MCal P w K mg base 3 (fun X => X = C_Corral) "drop_noughts" ["self", "tops"] (mJ K C_Corral) := ⟨fun X h => by
  subst h
  exact PR.m_Corral_drop_noughts.use PR.c_Corral.cl (fun _ _ _ _ _ _ us hl => match us, hl with | [_, _], _ => rfl) fun f fd F => (j7 F T CT m_drop).toX.imp fun _ _ _ _ h => h.2⟩
 have m_flat_tops : MCal P w K mg base 1 (fun X => X = C_Corral) "flat_tops" ["self"] (mI C_Corral) := ⟨fun X h => by
  subst h
  exact PR.m_Corral_flat_tops.use PR.c_Corral.cl (fun _ _ _ _ _ _ us hl => match us, hl with | [_], _ => rfl) fun f fd F => (lD F T CT).toX.imp fun _ _ _ _ h => h.2⟩
 have n_Corral : NCal P w K mg base 1 "Corral" ["self", "vectors"] (kL C_Corral) := PR.c_Corral.new PR.m_Corral___init__ (fun _ _ _ _ _ _ us hl => match us, hl with | [_, _], _ => rfl) (fun vs H Q Q' E m h => by
  obtain ⟨va, e, q⟩ := h
  exact ⟨va, e, fun r H' s n c => m _ _ (q r H' s n c)⟩) fun f fd F => (lS F T CT).toX
 exact ⟨CT, m_chosen, m_take, m_drop_noughts, m_flat_tops, n_Corral⟩
end Mw
namespace PySem.W.Fast
def tw2810688803089390037 := 0
def tw5898373686990159036 := 0
def tw1386673981185665463 := 0
def tw2293135710908607289 := 0
def tw15905178127388673130 := 0
def tw11721597816725626570 := 0
def tw16612806807529351914 := 0
def tw7487758577667464665 := 0
def tw5977092113219747193 := 0
def tw6151938443629163292 := 0
def tw1039125253079519497 := 0
def tw13793424356523572396 := 0
def tw16318936749403388215 := 0
def tw14116031330125193792 := 0
def tw5544807801005751722 := 0
def tw10397593639270145894 := 0
def tw14585401559023288526 := 0
def tw323481676905928299 := 0
def tw7990341389968692382 := 0
def tw13296348156209091831 := 0
def tw3049714404555291313 := 0
def tw9925523730073254204 := 0
def tw5484079181049232496 := 0
def tw3044642742525861471 := 0
def tw14806448373675644799 := 0
def tw16284613623186904725 := 0
def tw14153391417449438408 := 0
def tw910239986528418984 := 0
def tw18413878468787485307 := 0
def tw12273346343706537547 := 0
def tw15345041208413133525 := 0
def tw704890024904593999 := 0
def tw5077801233432032733 := 0
def tw11055335959706322124 := 0
def tw1703166840586028581 := 0
def tw4052900396461366431 := 0
def tw15335063552480122391 := 0
def tw10211729727179148645 := 0
def tw6813405386818300602 := 0
def tw6004157095220782631 := 0
def tw12642143119049434976 := 0
def tw10703453958590951813 := 0
def tw17926196644040254207 := 0
def tw323599338006845527 := 0
def tw17959298105412615189 := 0
def tw6074624395664399041 := 0
def tw12037421054515736114 := 0
def tw13486892207718177925 := 0
def tw14706170780803780917 := 0
def tw16927988211756831316 := 0
def tw11066267722598596295 := 0
def tw13245445649404326388 := 0
def tw16854854518161924497 := 0
def tw16998271107982336725 := 0
def tw1343799699436173530 := 0
def tw7703100980821111403 := 0
def tw10026734620315006617 := 0
def tw8067891959414191985 := 0
def tw9593159364417538427 := 0
def tw14833574954506500277 := 0
def tw3996066564863033504 := 0
def tw4960306487862974606 := 0
def tw3493463090097720633 := 0
def tw4307294971565269676 := 0
def tw6148724603293717878 := 0
def tw3973345302880065370 := 0
def tw3163801100293811501 := 0
def tw12963178257135114877 := 0
def tw13502850051921519650 := 0
def tw7280350565789746378 := 0
def tw1244384570607716067 := 0
def tw18165945958240895972 := 0
def tw12841480741565128212 := 0
def tw8025811105236883349 := 0
def tw14587991211707231637 := 0
def tw14678268278029074819 := 0
def tw17582441745177750038 := 0
def tw8957697948296796943 := 0
def tw5124609262484815319 := 0
def tw15024365013493067714 := 0
def tw787203247116072327 := 0
def tw18270770753696014189 := 0
def tw117954363064722283 := 0
def tw8907818948090845338 := 0
def tw7984408176361930698 := 0
def tw17369572904206430397 := 0
def tw16825945961521242554 := 0
def tw14860137530873682586 := 0
def tw295749583368070726 := 0
def tw903123801017539696 := 0
def tw16520789261973064820 := 0
def tw5492230089958782426 := 0
def tw11790394206922458822 := 0
def tw7643516195275973701 := 0
def tw17622263173111448926 := 0
def tw18370208540450919920 := 0
def tw6908644622877584704 := 0
def tw17788038962248372492 := 0
def tw16353766689558120641 := 0
def tw4876495700143944258 := 0
def tw1109764057818730055 := 0
def tw82617848530199346 := 0
def tw4690376746007830128 := 0
def tw14643530839713309837 := 0
def tw72128105970801504 := 0
def tw10304171232343151907 := 0
def tw8334694752275220233 := 0
def tw3030954268654942516 := 0
def tw9302932726171984480 := 0
def tw15623789243386357590 := 0
def tw17666725004960882483 := 0
def tw13614701109863625085 := 0
def tw242351495102302986 := 0
def tw1786177766512867553 := 0
def tw2978660379165587844 := 0
def tw16958298235939142921 := 0
def tw15721084524948692266 := 0
def tw9096494363200223898 := 0
def tw15277838165239228964 := 0
def tw3280225306329205801 := 0
def tw4105634677712061066 := 0
def tw6027817421708574334 := 0
def tw752445017452553742 := 0
def tw2924699644787454401 := 0
def tw4625267911195414951 := 0
def tw17365787377807631065 := 0
def tw13346359924797933216 := 0
def tw10481772045038023100 := 0
def tw12226793111007053013 := 0
def tw15508507457791580722 := 0
def tw6244641341736249812 := 0
def tw1754227918827216143 := 0
def tw13398645458552963849 := 0
def tw10591409118015540261 := 0
def tw13412577811998813414 := 0
def tw3567845203834934295 := 0
def tw14246878769449381820 := 0
def tw6242695633743305012 := 0
def tw3198630840394607860 := 0
def tw7511725665419966578 := 0
def tw5154639686941806281 := 0
def tw8429321780952384385 := 0
def tw4043154571404841441 := 0
def tw2483763010949539567 := 0
def tw2365005668203028254 := 0
def tw15848795870007510900 := 0
def tw16297323056372168605 := 0
def tw15509901973903047819 := 0
def tw6392717051112341019 := 0
def tw6085540028009041050 := 0
def tw15550024851657739909 := 0
def tw18324291742971845599 := 0
def tw7398424973202828393 := 0
def tw16470102465875109119 := 0
def tw4621421907319838293 := 0
def tw3169963974274334941 := 0
def tw12604705324625348959 := 0
def tw13737501789709531406 := 0
def tw3727928806628534656 := 0
def tw12024106024381921875 := 0
def tw485909678050884306 := 0
def tw6211878751523758979 := 0
def tw8959983333487292179 := 0
def tw1311685158629210916 := 0
def tw11039191521621811339 := 0
def tw814069305995767713 := 0
def tw569203999231451132 := 0
def tw4757059033497423273 := 0
def tw11173656000186897639 := 0
def tw11039071593202120815 := 0
def tw7289170462546129940 := 0
def tw13005086716781996097 := 0
def tw13052221672123568553 := 0
def tw16815216307131778518 := 0
def tw2125761491991480713 := 0
def tw2127525914720962628 := 0
def tw18341480583267893314 := 0
def tw8927107251361785769 := 0
def tw7463084828809789386 := 0
def tw237336470931482282 := 0
def tw4039898008844839800 := 0
def tw2595504084797984455 := 0
def tw12105213176638824044 := 0
def tw854955442020628653 := 0
def tw17957153165259054522 := 0
def tw17114370220675846322 := 0
def tw7563959984555639708 := 0
def tw1522312947995919018 := 0
def tw10388710210106157978 := 0
def tw10113737113128209440 := 0
def tw2495661434662706318 := 0
def tw14948224527484484888 := 0
def tw15202250779728858191 := 0
def tw1261156596121107076 := 0
def tw15094651917372416756 := 0
def tw7618444505663043316 := 0
def tw2989931756360353701 := 0
def tw732541501061708308 := 0
def tw10847940917972072672 := 0
def tw11125798468503550666 := 0
def tw11868459479321298228 := 0
def tw17334244539497249791 := 0
def tw1194270148587459083 := 0
def tw5482397759644106516 := 0
def tw14145655759125845029 := 0
def tw12451967141317269859 := 0
def tw2143412813263323450 := 0
def tw7664022648253413439 := 0
def tw1960820004623182905 := 0
def tw3103607420933845872 := 0
def tw16463089631884318075 := 0
def tw4338775804168496082 := 0
def tw4076541392660679214 := 0
def tw9060376479193935857 := 0
def tw18407676533697694621 := 0
def tw16421099842760258550 := 0
def tw10944121663897819277 := 0
def tw14952047217924450171 := 0
def tw6370798819909903207 := 0
def tw547125829821508732 := 0
def tw2068218556079302943 := 0
def tw16553004215671084414 := 0
def tw16752078409032749020 := 0
def tw9353837121009889901 := 0
def tw18336383068389370087 := 0
def tw11999515927107876011 := 0
def tw13460593965342825684 := 0
def tw8149292915722008691 := 0
def tw9135245175155235176 := 0
def tw12010217047549314910 := 0
def tw12207425713561511041 := 0
def tw6591617718937273946 := 0
def tw10604338603909201108 := 0
def tw18387723058920290861 := 0
def tw4276667176575588363 := 0
def tw9551473589048056633 := 0
def tw12628348375801221128 := 0
def tw6090218662870757573 := 0
def tw11742717806703504922 := 0
def tw8880315322478315321 := 0
def tw10981125343920061366 := 0
def tw13297915128210196886 := 0
def tw1748298698280185972 := 0
def tw10149388845880822052 := 0
def tw10300335687332553733 := 0
def tw13541607665725240025 := 0
def tw9841959968136090778 := 0
def tw3949884497340404619 := 0
def tw4745532346460568351 := 0
def tw12873068761870396491 := 0
def tw5497182526676993555 := 0
def tw9077354010194599721 := 0
def tw9989112465226447013 := 0
def tw15149191882571120265 := 0
def tw13000951703549820360 := 0
def tw6462856396172092177 := 0
def tw973767775787373417 := 0
def tw13788330023621959521 := 0
def tw12751996708666161366 := 0
def tw15726916926003143517 := 0
def tw10838612878701555903 := 0
def tw11753177444738924357 := 0
def tw12997997002947016844 := 0
def tw11089870434673894084 := 0
def tw7977770763996767764 := 0
def tw3402959679534647520 := 0
def tw4171590140367120610 := 0
def tw1244012013429103394 := 0
def tw11800422088128940941 := 0
def tw11559041219171799704 := 0
def tw12634847143023079672 := 0
def tw17487214559631429627 := 0
def tw1858569658624938696 := 0
def tw13546596425249074310 := 0
def tw1179364492423338733 := 0
def tw15080048118519748586 := 0
def tw11819709876619991203 := 0
def tw12485226860118271308 := 0
def tw11983618044930203052 := 0
def tw14186782811867280476 := 0
def tw13200803758265280988 := 0
def tw6244655365856847735 := 0
def tw17714627421670523903 := 0
def tw12730974822101400837 := 0
def tw14859636568988589331 := 0
def tw11379873354142263164 := 0
def tw16795412489215580488 := 0
def tw6438281524059216775 := 0
def tw6926126949568920504 := 0
def tw14212022044146229088 := 0
def tw12069649971975754065 := 0
def tw1171021576262206068 := 0
def tw1460037721508345588 := 0
def tw4809586484727751990 := 0
def tw2781985138079186578 := 0
def tw8921066120312566665 := 0
def tw317563095580386823 := 0
def tw9041851798816231897 := 0
def tw5291052798851054978 := 0
def tw2558789110350376224 := 0
def tw16390704301959240559 := 0
def tw9498995098259955676 := 0
def tw2586623609067071060 := 0
def tw6356759737128274149 := 0
def tw14445125677188865945 := 0
def tw6077931639834945293 := 0
def tw18318023946607944841 := 0
def tw12323803081357200701 := 0
def tw9361230547765157645 := 0
def tw10363164562683979838 := 0
def tw8884311604949946578 := 0
def tw17222117801422565658 := 0
def tw11252987363904968440 := 0
def tw1762530702126933245 := 0
def tw11769466542348365441 := 0
def tw15349753196531212093 := 0
def tw2404361041527335343 := 0
def tw1727542182095530999 := 0
def tw13694883590130405336 := 0
def tw8640068669057645315 := 0
def tw6657774166676238183 := 0
def tw1917469591799095878 := 0
def tw16589020546981001646 := 0
def tw10594231187795876154 := 0
def tw9974372323114916276 := 0
def tw8357143873680137239 := 0
def tw12072059232226950211 := 0
def tw8616751145331163866 := 0
def tw15649155622874018972 := 0
def tw16895567330749690798 := 0
def tw4589001900494698141 := 0
def tw2532375373841175428 := 0
def tw8748046160143204683 := 0
def tw4499413746271202024 := 0
def tw1150853673269048955 := 0
def tw9538594079192347500 := 0
def tw12910482891383446052 := 0
def tw18386858687752287619 := 0
def tw15755531931832754644 := 0
def tw3146696217138990777 := 0
def tw8800852034284476685 := 0
def tw10604459418682675344 := 0
def tw9816029348435119342 := 0
def tw3049606752604043587 := 0
def tw18046911160451913083 := 0
def tw150087256661839971 := 0
def tw16268526546224452092 := 0
def tw12865361193313243461 := 0
def tw4787350888661640563 := 0
def tw2612316362856755006 := 0
def tw15096921471007476759 := 0
def tw12579419144458167947 := 0
def tw16525370090978146818 := 0
def tw973972152938788644 := 0
def tw1909769639348020437 := 0
def tw3409367914512270970 := 0
def tw18420122754933253619 := 0
def tw1458280993875789731 := 0
def tw9097808749530587503 := 0
def tw15258286795862800581 := 0
def tw14698548838829604181 := 0
def tw1625032893391364682 := 0
def tw15111420381670394211 := 0
def tw1120362283090317646 := 0
def tw16972204569148478942 := 0
def tw12882886316496419620 := 0
def tw17123333543288976230 := 0
def tw7456476385608271808 := 0
def tw14953969828256964721 := 0
def tw15763832520736513057 := 0
def tw15520182319782303003 := 0
def tw3642655139713025977 := 0
def tw16876682742910325844 := 0
def tw1134753776188854437 := 0
def tw10629403796691454636 := 0
def tw10206649841926838198 := 0
def tw17524894937616111680 := 0
def tw13530652743979727131 := 0
def tw3450378237417352933 := 0
def tw6752387241123313487 := 0
def tw590011477692692576 := 0
def tw2147059794450589635 := 0
def tw9767234187662566804 := 0
def tw6839167215955923084 := 0
def tw2463175022344197279 := 0
def tw12524532292189565469 := 0
def tw14721417152069417357 := 0
def tw11953467028662533472 := 0
def tw9363629490704817586 := 0
def tw14946710818212974133 := 0
def tw17450212165089219279 := 0
def tw2685373273381409928 := 0
def tw9250827812986090202 := 0
def tw4137096440290117974 := 0
def tw14111868068240193205 := 0
def tw13999772840282360811 := 0
def tw6019250975078685230 := 0
def tw3071626181499369403 := 0
def tw12854618842276142432 := 0
def tw16683706197049389423 := 0
def tw11621348234054455967 := 0
def tw18052226650219511564 := 0
def tw6887168201159172252 := 0
def tw4076580344298350188 := 0
def tw10664269915204299862 := 0
def tw11659047299179995462 := 0
def tw2741097640194330863 := 0
def tw8546728059126614230 := 0
def tw14710347704320719300 := 0
def tw7883037960661302669 := 0
def tw7466788452508303497 := 0
def tw8178428093902080728 := 0
def tw17878973182785581122 := 0
def tw2257028615050498188 := 0
def tw16043875008657278604 := 0
def tw10244626246830448220 := 0
def tw13268860315714604396 := 0
def tw13457502251751859730 := 0
def tw7678448935878066916 := 0
def tw13885125721470622407 := 0
def tw3387756401673045153 := 0
def tw11716772171847707928 := 0
def tw12010472340284266870 := 0
def tw7250691296713288765 := 0
def tw11695858057445651112 := 0
def tw8567584005309334673 := 0
def tw618448676019756025 := 0
def tw11615408893401768492 := 0
def tw10852854432892252742 := 0
def tw14483917976454007578 := 0
def tw4277523138931150966 := 0
def tw15038793465521393693 := 0
def tw3660381138492194571 := 0
def tw4332657653904225306 := 0
def tw460236579261644000 := 0
def tw10149806951392468585 := 0
def tw16744903751247956351 := 0
def tw4569260919448937001 := 0
def tw8370450321136887408 := 0
def tw2811727931440569471 := 0
def tw206734460725165747 := 0
def tw10684712285550289718 := 0
def tw17777014180876079450 := 0
def tw5540956409947767569 := 0
def tw17638343151106677519 := 0
def tw17461733966909377574 := 0
def tw17637247925885359705 := 0
def tw14665416110364382240 := 0
def tw1379838813194111731 := 0
def tw7847518807997619290 := 0
def tw12768291309072506959 := 0
def tw15786081380792510808 := 0
def tw16360234980613854005 := 0
def tw5568136822492228014 := 0
def tw4054178367298316757 := 0
def tw2488376134098539147 := 0
def tw7581770333767796157 := 0
def tw487462932987270096 := 0
def tw17531047688688881314 := 0
def tw3840717583006483692 := 0
def tw3940023017520983835 := 0
def tw17267249786379980633 := 0
def tw18384720534818138402 := 0
def tw7584813496619655616 := 0
def tw16395795535774783082 := 0
def tw5399216869106439028 := 0
end PySem.W.Fast
open PySem PySem.W PyProof.Rows
set_option maxRecDepth 100000 in
set_option maxHeartbeats 0 in
theorem PySem.Challenge.cw_mendweights_k30_widths_refused_holds : PySem.Challenge.rw_mendweights_k30_widths_refused.Holds := by
 w_on; o_law; k_head; (case hw => w_witness2)
 k_fill
 refine L2.walkLaw (l := PySem.Challenge.rw_mendweights_k30_widths_refused) (k := 14) (x := "_law_script") rfl rfl ⟨rfl, by decide, by decide⟩ (fun w h Y => PySem.W.kIn_of Y) ?F
 case F =>
  intro w mg fa h KX G hmg
  have T : L2.Txt Mw.BN mg := by
   refine' L2.txt_cons KX G ?z1 (L2.txt_cons KX G ?z2 (L2.txt_cons KX G ?z3 (L2.txt_cons KX G ?z4 (L2.txt_cons KX G ?z5 (L2.txt_cons KX G ?z6 (L2.txt_cons KX G ?z7 (L2.txt_cons KX G ?z8 (L2.txt_cons KX G ?z9 (L2.txt_cons KX G ?z10 (L2.txt_cons KX G ?z11 (L2.txt_cons KX G ?z12 (L2.txt_cons KX G ?z13 (L2.txt_cons KX G ?z14 L2.txt_nil)))))))))))))
   (case z1 => k_is); (case z2 => k_is); (case z3 => k_is); (case z4 => k_is); (case z5 => k_is); (case z6 => k_is); (case z7 => k_is); (case z8 => k_is); (case z9 => k_is); (case z10 => k_is); (case z11 => k_is); (case z12 => k_is); (case z13 => k_is); (case z14 => k_is)
  obtain ⟨C_Corral, X_MendError, X_NoFraction, X_NoSide, X_OneSide, X_NoPoint, X_NoRow, X_NoTable, X_NoText, X_NotParted, X_TooMany, X_WrongBook, PR⟩ : ∃ C_Corral X_MendError X_NoFraction X_NoSide X_OneSide X_NoPoint X_NoRow X_NoTable X_NoText X_NotParted X_TooMany X_WrongBook, Mw.Prog (L2.KOf KX) mg C_Corral X_MendError X_NoFraction X_NoSide X_OneSide X_NoPoint X_NoRow X_NoTable X_NoText X_NotParted X_TooMany X_WrongBook := by
   dsimp only [L2.KOf]
   refine' ⟨_, _, _, _, _, _, _, _, _, _, _, _, ⟨⟨⟨?z2, ?z3, ?z4, ?z5⟩, ?z6, ?z7, PySem.W.mg_of KX G ?z1⟩, ⟨⟨?z9⟩, PySem.W.mg_of KX G ?z8⟩, ⟨⟨?z11⟩, PySem.W.mg_of KX G ?z10⟩, ⟨⟨?z13⟩, PySem.W.mg_of KX G ?z12⟩, ⟨⟨?z15⟩, PySem.W.mg_of KX G ?z14⟩, ⟨PySem.W.mg_of KX G ?z16⟩, ⟨PySem.W.mg_of KX G ?z17⟩, ⟨PySem.W.mg_of KX G ?z18⟩, ⟨PySem.W.mg_of KX G ?z19⟩, ⟨PySem.W.mg_of KX G ?z20⟩, ⟨PySem.W.mg_of KX G ?z21⟩, ⟨PySem.W.mg_of KX G ?z22⟩, ⟨?z23, ?z24, ?z25, ?z26, ?z27, ?z28, ?z29⟩, ?z30, ?z31, ?z32, ?z33, ?z34, ?z35, ?z36, ?z37, ?z38, ?z39, ?z40, ⟨?z41, ?z42, ?z43, ?z44, ?z45, ?z46, ?z47⟩, ?z48, ?z49, ?z50, ?z51, ?z52, ?z53, ?z54, ?z55, ?z56, ?z57, ?z58, ⟨?z59, ?z60, ?z61, ?z62, ?z63, ?z64, ?z65⟩, ?z66, ?z67, ?z68, ?z69, ?z70, ?z71, ?z72, ?z73, ?z74, ?z75, ?z76, ?z77, ?z78, ?z79, ?z80, ?z81, ?z82, ?z83, ⟨⟨_, _, ⟨?z84, ?z85, ?z86⟩, L2.fun_mk ?z87 ?z88 ?z89⟩⟩, ⟨⟨_, _, ⟨?z90, ?z91, ?z92⟩, L2.fun_mk ?z93 ?z94 ?z95⟩⟩, ⟨⟨_, _, ⟨?z96, ?z97, ?z98⟩, L2.fun_mk ?z99 ?z100 ?z101⟩⟩, ⟨⟨_, _, ⟨?z102, ?z103, ?z104⟩, L2.fun_mk ?z105 ?z106 ?z107⟩⟩, ⟨⟨_, _, ⟨?z108, ?z109, ?z110⟩, L2.fun_mk ?z111 ?z112 ?z113⟩⟩, ⟨⟨_, _, ⟨?z114, ?z115, ?z116⟩, L2.fun_mk ?z117 ?z118 ?z119⟩⟩⟩⟩
   (case z1 => k_is)
   (case z2 => k_is)
   (case z3 => k_is)
   (case z4 => k_is)
   (case z5 => k_is)
   (case z6 => k_is)
   (case z7 => k_is)
   (case z8 => k_is)
   (case z9 => k_exc)
   (case z10 => k_is)
   (case z11 => k_exc)
   (case z12 => k_is)
   (case z13 => k_exc)
   (case z14 => k_is)
   (case z15 => k_exc)
   (case z16 => k_is)
   (case z17 => k_is)
   (case z18 => k_is)
   (case z19 => k_is)
   (case z20 => k_is)
   (case z21 => k_is)
   (case z22 => k_is)
   (case z23 => k_is)
   (case z24 => k_is)
   (case z25 => k_is)
   (case z26 => k_is)
   (case z27 => k_is)
   (case z28 => k_is)
   (case z29 => k_is)
   (case z30 => kit_is)
   (case z31 => kit_is)
   (case z32 => kit_is)
   (case z33 => kit_is)
   (case z34 => kit_is)
   (case z35 => kit_is)
   (case z36 => kit_is)
   (case z37 => kit_is)
   (case z38 => kit_is)
   (case z39 => kit_is)
   (case z40 => kit_is)
   (case z41 => k_is)
   (case z42 => k_is)
   (case z43 => k_is)
   (case z44 => k_is)
   (case z45 => k_is)
   (case z46 => k_is)
   (case z47 => k_is)
   (case z48 => kit_is)
   (case z49 => kit_is)
   (case z50 => kit_is)
   (case z51 => kit_is)
   (case z52 => kit_is)
   (case z53 => kit_is)
   (case z54 => kit_is)
   (case z55 => kit_is)
   (case z56 => kit_is)
   (case z57 => kit_is)
   (case z58 => kit_is)
   (case z59 => k_is)
   (case z60 => k_is)
   (case z61 => k_is)
   (case z62 => k_is)
   (case z63 => k_is)
   (case z64 => k_is)
   (case z65 => k_is)
   (case z66 => kit_is)
   (case z67 => kit_is)
   (case z68 => kit_is)
   (case z69 => kit_is)
   (case z70 => kit_is)
   (case z71 => kit_is)
   (case z72 => kit_is)
   (case z73 => kit_is)
   (case z74 => kit_is)
   (case z75 => kit_is)
   (case z76 => kit_is)
   (case z77 => kts_exm)
   (case z78 => kts_exm)
   (case z79 => kts_exm)
   (case z80 => (unfold L2.NoAttr; k_is))
   (case z81 => (unfold L2.NoAttr; k_is))
   (case z82 => (unfold L2.NoAttr; k_is))
   (case z83 => (unfold L2.NoAttr; k_is))
   (case z84 => k_is)
   (case z85 => k_is)
   (case z86 => k_is)
   (case z87 => k_is)
   (case z88 => k_is)
   (case z89 => k_is)
   (case z90 => k_is)
   (case z91 => k_is)
   (case z92 => k_is)
   (case z93 => k_is)
   (case z94 => k_is)
   (case z95 => k_is)
   (case z96 => k_is)
   (case z97 => k_is)
   (case z98 => k_is)
   (case z99 => k_is)
   (case z100 => k_is)
   (case z101 => k_is)
   (case z102 => k_is)
   (case z103 => k_is)
   (case z104 => k_is)
   (case z105 => k_is)
   (case z106 => k_is)
   (case z107 => k_is)
   (case z108 => k_is)
   (case z109 => k_is)
   (case z110 => k_is)
   (case z111 => k_is)
   (case z112 => k_is)
   (case z113 => k_is)
   (case z114 => k_is)
   (case z115 => k_is)
   (case z116 => k_is)
   (case z117 => k_is)
   (case z118 => k_is)
   (case z119 => k_is)
  have d13 : L2.DefAt (L2.KOf KX) "shared_factor" (Mw.top 13) := by dsimp only [L2.KOf]; refine' L2.defAt ?a ?l ?c ?k; (case a => k_is); (case l => k_is); (case c => k_is); (case k => k_is)
  have d14 : L2.DefAt (L2.KOf KX) "part" (Mw.top 14) := by dsimp only [L2.KOf]; refine' L2.defAt ?a ?l ?c ?k; (case a => k_is); (case l => k_is); (case c => k_is); (case k => k_is)
  have d15 : L2.DefAt (L2.KOf KX) "both" (Mw.top 15) := by dsimp only [L2.KOf]; refine' L2.defAt ?a ?l ?c ?k; (case a => k_is); (case l => k_is); (case c => k_is); (case k => k_is)
  have d16 : L2.DefAt (L2.KOf KX) "by" (Mw.top 16) := by dsimp only [L2.KOf]; refine' L2.defAt ?a ?l ?c ?k; (case a => k_is); (case l => k_is); (case c => k_is); (case k => k_is)
  have d18 : L2.DefAt (L2.KOf KX) "product" (Mw.top 18) := by dsimp only [L2.KOf]; refine' L2.defAt ?a ?l ?c ?k; (case a => k_is); (case l => k_is); (case c => k_is); (case k => k_is)
  have d19 : L2.DefAt (L2.KOf KX) "square" (Mw.top 19) := by dsimp only [L2.KOf]; refine' L2.defAt ?a ?l ?c ?k; (case a => k_is); (case l => k_is); (case c => k_is); (case k => k_is)
  have d20 : L2.DefAt (L2.KOf KX) "look_at_sides" (Mw.top 20) := by dsimp only [L2.KOf]; refine' L2.defAt ?a ?l ?c ?k; (case a => k_is); (case l => k_is); (case c => k_is); (case k => k_is)
  have d21 : L2.DefAt (L2.KOf KX) "least_multiple" (Mw.top 21) := by dsimp only [L2.KOf]; refine' L2.defAt ?a ?l ?c ?k; (case a => k_is); (case l => k_is); (case c => k_is); (case k => k_is)
  have d22 : L2.DefAt (L2.KOf KX) "greatest_divisor" (Mw.top 22) := by dsimp only [L2.KOf]; refine' L2.defAt ?a ?l ?c ?k; (case a => k_is); (case l => k_is); (case c => k_is); (case k => k_is)
  have d23 : L2.DefAt (L2.KOf KX) "made_whole" (Mw.top 23) := by dsimp only [L2.KOf]; refine' L2.defAt ?a ?l ?c ?k; (case a => k_is); (case l => k_is); (case c => k_is); (case k => k_is)
  have d25 : L2.DefAt (L2.KOf KX) "mixed" (Mw.top 25) := by dsimp only [L2.KOf]; refine' L2.defAt ?a ?l ?c ?k; (case a => k_is); (case l => k_is); (case c => k_is); (case k => k_is)
  have d26 : L2.DefAt (L2.KOf KX) "mixture" (Mw.top 26) := by dsimp only [L2.KOf]; refine' L2.defAt ?a ?l ?c ?k; (case a => k_is); (case l => k_is); (case c => k_is); (case k => k_is)
  have d27 : L2.DefAt (L2.KOf KX) "combined" (Mw.top 27) := by dsimp only [L2.KOf]; refine' L2.defAt ?a ?l ?c ?k; (case a => k_is); (case l => k_is); (case c => k_is); (case k => k_is)
  have d29 : L2.DefAt (L2.KOf KX) "first_edge" (Mw.top 29) := by dsimp only [L2.KOf]; refine' L2.defAt ?a ?l ?c ?k; (case a => k_is); (case l => k_is); (case c => k_is); (case k => k_is)
  have d30 : L2.DefAt (L2.KOf KX) "at_the_edge" (Mw.top 30) := by dsimp only [L2.KOf]; refine' L2.defAt ?a ?l ?c ?k; (case a => k_is); (case l => k_is); (case c => k_is); (case k => k_is)
  have d31 : L2.DefAt (L2.KOf KX) "arrived" (Mw.top 31) := by dsimp only [L2.KOf]; refine' L2.defAt ?a ?l ?c ?k; (case a => k_is); (case l => k_is); (case c => k_is); (case k => k_is)
  have d32 : L2.DefAt (L2.KOf KX) "search" (Mw.top 32) := by dsimp only [L2.KOf]; refine' L2.defAt ?a ?l ?c ?k; (case a => k_is); (case l => k_is); (case c => k_is); (case k => k_is)
  have d33 : L2.DefAt (L2.KOf KX) "nearest_shares" (Mw.top 33) := by dsimp only [L2.KOf]; refine' L2.defAt ?a ?l ?c ?k; (case a => k_is); (case l => k_is); (case c => k_is); (case k => k_is)
  have d34 : L2.DefAt (L2.KOf KX) "nearest_mixture" (Mw.top 34) := by dsimp only [L2.KOf]; refine' L2.defAt ?a ?l ?c ?k; (case a => k_is); (case l => k_is); (case c => k_is); (case k => k_is)
  have d36 : L2.DefAt (L2.KOf KX) "numbers_of" (Mw.top 36) := by dsimp only [L2.KOf]; refine' L2.defAt ?a ?l ?c ?k; (case a => k_is); (case l => k_is); (case c => k_is); (case k => k_is)
  have d37 : L2.DefAt (L2.KOf KX) "points_of" (Mw.top 37) := by dsimp only [L2.KOf]; refine' L2.defAt ?a ?l ?c ?k; (case a => k_is); (case l => k_is); (case c => k_is); (case k => k_is)
  have d38 : L2.DefAt (L2.KOf KX) "are_of_both" (Mw.top 38) := by dsimp only [L2.KOf]; refine' L2.defAt ?a ?l ?c ?k; (case a => k_is); (case l => k_is); (case c => k_is); (case k => k_is)
  have d39 : L2.DefAt (L2.KOf KX) "look_at_both" (Mw.top 39) := by dsimp only [L2.KOf]; refine' L2.defAt ?a ?l ?c ?k; (case a => k_is); (case l => k_is); (case c => k_is); (case k => k_is)
  have d40 : L2.DefAt (L2.KOf KX) "pairs_of" (Mw.top 40) := by dsimp only [L2.KOf]; refine' L2.defAt ?a ?l ?c ?k; (case a => k_is); (case l => k_is); (case c => k_is); (case k => k_is)
  have d41 : L2.DefAt (L2.KOf KX) "less" (Mw.top 41) := by dsimp only [L2.KOf]; refine' L2.defAt ?a ?l ?c ?k; (case a => k_is); (case l => k_is); (case c => k_is); (case k => k_is)
  have d42 : L2.DefAt (L2.KOf KX) "differences" (Mw.top 42) := by dsimp only [L2.KOf]; refine' L2.defAt ?a ?l ?c ?k; (case a => k_is); (case l => k_is); (case c => k_is); (case k => k_is)
  have d43 : L2.DefAt (L2.KOf KX) "nearest_difference" (Mw.top 43) := by dsimp only [L2.KOf]; refine' L2.defAt ?a ?l ?c ?k; (case a => k_is); (case l => k_is); (case c => k_is); (case k => k_is)
  have d44 : L2.DefAt (L2.KOf KX) "one_side_weights" (Mw.top 44) := by dsimp only [L2.KOf]; refine' L2.defAt ?a ?l ?c ?k; (case a => k_is); (case l => k_is); (case c => k_is); (case k => k_is)
  have d45 : L2.DefAt (L2.KOf KX) "parting" (Mw.top 45) := by dsimp only [L2.KOf]; refine' L2.defAt ?a ?l ?c ?k; (case a => k_is); (case l => k_is); (case c => k_is); (case k => k_is)
  have d46 : L2.DefAt (L2.KOf KX) "sides_mixture" (Mw.top 46) := by dsimp only [L2.KOf]; refine' L2.defAt ?a ?l ?c ?k; (case a => k_is); (case l => k_is); (case c => k_is); (case k => k_is)
  have d47 : L2.DefAt (L2.KOf KX) "width_square" (Mw.top 47) := by dsimp only [L2.KOf]; refine' L2.defAt ?a ?l ?c ?k; (case a => k_is); (case l => k_is); (case c => k_is); (case k => k_is)
  have d48 : L2.DefAt (L2.KOf KX) "hold" (Mw.top 48) := by dsimp only [L2.KOf]; refine' L2.defAt ?a ?l ?c ?k; (case a => k_is); (case l => k_is); (case c => k_is); (case k => k_is)
  have d49 : L2.DefAt (L2.KOf KX) "holders" (Mw.top 49) := by dsimp only [L2.KOf]; refine' L2.defAt ?a ?l ?c ?k; (case a => k_is); (case l => k_is); (case c => k_is); (case k => k_is)
  have d51 : L2.DefAt (L2.KOf KX) "_law_cell_at" (Mw.top 51) := by dsimp only [L2.KOf]; refine' L2.defAt ?a ?l ?c ?k; (case a => k_is); (case l => k_is); (case c => k_is); (case k => k_is)
  have d52 : L2.DefAt (L2.KOf KX) "_law_mixed" (Mw.top 52) := by dsimp only [L2.KOf]; refine' L2.defAt ?a ?l ?c ?k; (case a => k_is); (case l => k_is); (case c => k_is); (case k => k_is)
  have d53 : L2.DefAt (L2.KOf KX) "_law_draws" (Mw.top 53) := by dsimp only [L2.KOf]; refine' L2.defAt ?a ?l ?c ?k; (case a => k_is); (case l => k_is); (case c => k_is); (case k => k_is)
  have d54 : L2.DefAt (L2.KOf KX) "_law_point" (Mw.top 54) := by dsimp only [L2.KOf]; refine' L2.defAt ?a ?l ?c ?k; (case a => k_is); (case l => k_is); (case c => k_is); (case k => k_is)
  have d55 : L2.DefAt (L2.KOf KX) "_law_side" (Mw.top 55) := by dsimp only [L2.KOf]; refine' L2.defAt ?a ?l ?c ?k; (case a => k_is); (case l => k_is); (case c => k_is); (case k => k_is)
  have d56 : L2.DefAt (L2.KOf KX) "_law_sided" (Mw.top 56) := by dsimp only [L2.KOf]; refine' L2.defAt ?a ?l ?c ?k; (case a => k_is); (case l => k_is); (case c => k_is); (case k => k_is)
  have d57 : L2.DefAt (L2.KOf KX) "_law_asked" (Mw.top 57) := by dsimp only [L2.KOf]; refine' L2.defAt ?a ?l ?c ?k; (case a => k_is); (case l => k_is); (case c => k_is); (case k => k_is)
  have d58 : L2.DefAt (L2.KOf KX) "_law_kinds" (Mw.top 58) := by dsimp only [L2.KOf]; refine' L2.defAt ?a ?l ?c ?k; (case a => k_is); (case l => k_is); (case c => k_is); (case k => k_is)
  have d59 : L2.DefAt (L2.KOf KX) "_law_refused" (Mw.top 59) := by dsimp only [L2.KOf]; refine' L2.defAt ?a ?l ?c ?k; (case a => k_is); (case l => k_is); (case c => k_is); (case k => k_is)
  have d60 : L2.DefAt (L2.KOf KX) "law" (Mw.top 60) := by dsimp only [L2.KOf]; refine' L2.defAt ?a ?l ?c ?k; (case a => k_is); (case l => k_is); (case c => k_is); (case k => k_is)
  refine d60.law KX G hmg (fun _ _ _ _ _ _ => L2.len1 fun _ => rfl) fun f fd base F kb nb => ?_
  have c13 := d13.cal (P := PySem.Challenge.rw_mendweights_k30_widths_refused.prog) (w := w) (base := base) (ps := ["one", "other"]) KX G (fun _ _ _ _ _ _ => L2.len2 fun _ _ => rfl) fun f fd F => Mw.ok_shared_factor F T 
  have c14 := d14.calX (P := PySem.Challenge.rw_mendweights_k30_widths_refused.prog) (w := w) (base := base) (ps := ["top", "bottom"]) KX G (fun _ _ _ _ _ _ => L2.len2 fun _ _ => rfl) fun f fd F => Mw.ok_part F T PR.x_NoFraction c13
  have c15 := d15.calX (P := PySem.Challenge.rw_mendweights_k30_widths_refused.prog) (w := w) (base := base) (ps := ["one", "other"]) KX G (fun _ _ _ _ _ _ => L2.len2 fun _ _ => rfl) fun f fd F => Mw.ok_both F T c14
  have c16 := d16.calX (P := PySem.Challenge.rw_mendweights_k30_widths_refused.prog) (w := w) (base := base) (ps := ["one", "other"]) KX G (fun _ _ _ _ _ _ => L2.len2 fun _ _ => rfl) fun f fd F => Mw.ok_by F T c14
  have c18 := d18.cal (P := PySem.Challenge.rw_mendweights_k30_widths_refused.prog) (w := w) (base := base) (ps := ["one", "other"]) KX G (fun _ _ _ _ _ _ => L2.len2 fun _ _ => rfl) fun f fd F => Mw.ok_product F T 
  have c19 := d19.cal (P := PySem.Challenge.rw_mendweights_k30_widths_refused.prog) (w := w) (base := base) (ps := ["one"]) KX G (fun _ _ _ _ _ _ => L2.len1 fun _ => rfl) fun f fd F => Mw.ok_square F T c18
  have c20 := d20.calX (P := PySem.Challenge.rw_mendweights_k30_widths_refused.prog) (w := w) (base := base) (ps := ["rows", "sides"]) KX G (fun _ _ _ _ _ _ => L2.len2 fun _ _ => rfl) fun f fd F => Mw.ok_look_at_sides F T PR
  have c21 := d21.cal (P := PySem.Challenge.rw_mendweights_k30_widths_refused.prog) (w := w) (base := base) (ps := ["numbers"]) KX G (fun _ _ _ _ _ _ => L2.len1 fun _ => rfl) fun f fd F => Mw.ok_least_multiple F T c13
  have c22 := d22.cal (P := PySem.Challenge.rw_mendweights_k30_widths_refused.prog) (w := w) (base := base) (ps := ["numbers"]) KX G (fun _ _ _ _ _ _ => L2.len1 fun _ => rfl) fun f fd F => Mw.ok_greatest_divisor F T c13
  have c23 := d23.cal (P := PySem.Challenge.rw_mendweights_k30_widths_refused.prog) (w := w) (base := base) (ps := ["some"]) KX G (fun _ _ _ _ _ _ => L2.len1 fun _ => rfl) fun f fd F => Mw.ok_made_whole F T c21 c22
  have c25 := d25.cal (P := PySem.Challenge.rw_mendweights_k30_widths_refused.prog) (w := w) (base := base) (ps := ["vectors", "tops"]) KX G (fun _ _ _ _ _ _ => L2.len2 fun _ _ => rfl) fun f fd F => Mw.ok_mixed F T 
  have c26 := d26.cal (P := PySem.Challenge.rw_mendweights_k30_widths_refused.prog) (w := w) (base := base) (ps := ["vectors", "shares"]) KX G (fun _ _ _ _ _ _ => L2.len2 fun _ _ => rfl) fun f fd F => Mw.ok_mixture F T c21 c25 c14
  have c27 := d27.cal (P := PySem.Challenge.rw_mendweights_k30_widths_refused.prog) (w := w) (base := base) (ps := ["one", "times", "other", "other_times", "divisor"]) KX G (fun _ _ _ _ _ _ => L2.len5 fun _ _ _ _ _ => rfl) fun f fd F => Mw.ok_combined F T 
  have c29 := d29.cal (P := PySem.Challenge.rw_mendweights_k30_widths_refused.prog) (w := w) (base := base) (ps := ["tops", "aims"]) KX G (fun _ _ _ _ _ _ => L2.len2 fun _ _ => rfl) fun f fd F => Mw.ok_first_edge F T 
  have c30 := d30.cal (P := PySem.Challenge.rw_mendweights_k30_widths_refused.prog) (w := w) (base := base) (ps := ["tops", "aims"]) KX G (fun _ _ _ _ _ _ => L2.len2 fun _ _ => rfl) fun f fd F => Mw.ok_at_the_edge F T c29
  have c36 := d36.cal (P := PySem.Challenge.rw_mendweights_k30_widths_refused.prog) (w := w) (base := base) (ps := ["rows", "side"]) KX G (fun _ _ _ _ _ _ => L2.len2 fun _ _ => rfl) fun f fd F => Mw.ok_numbers_of F T 
  have c37 := d37.cal (P := PySem.Challenge.rw_mendweights_k30_widths_refused.prog) (w := w) (base := base) (ps := ["rows", "side"]) KX G (fun _ _ _ _ _ _ => L2.len2 fun _ _ => rfl) fun f fd F => Mw.ok_points_of F T 
  have c38 := d38.cal (P := PySem.Challenge.rw_mendweights_k30_widths_refused.prog) (w := w) (base := base) (ps := ["rows"]) KX G (fun _ _ _ _ _ _ => L2.len1 fun _ => rfl) fun f fd F => Mw.ok_are_of_both F T c37
  have c39 := d39.calX (P := PySem.Challenge.rw_mendweights_k30_widths_refused.prog) (w := w) (base := base) (ps := ["rows"]) KX G (fun _ _ _ _ _ _ => L2.len1 fun _ => rfl) fun f fd F => Mw.ok_look_at_both F T PR c20 c38
  have c40 := d40.cal (P := PySem.Challenge.rw_mendweights_k30_widths_refused.prog) (w := w) (base := base) (ps := ["rows"]) KX G (fun _ _ _ _ _ _ => L2.len1 fun _ => rfl) fun f fd F => Mw.ok_pairs_of F T c36
  have c41 := d41.cal (P := PySem.Challenge.rw_mendweights_k30_widths_refused.prog) (w := w) (base := base) (ps := ["one", "other"]) KX G (fun _ _ _ _ _ _ => L2.len2 fun _ _ => rfl) fun f fd F => Mw.ok_less F T 
  have c42 := d42.cal (P := PySem.Challenge.rw_mendweights_k30_widths_refused.prog) (w := w) (base := base) (ps := ["rows"]) KX G (fun _ _ _ _ _ _ => L2.len1 fun _ => rfl) fun f fd F => Mw.ok_differences F T c40 c41
  have c44 := d44.cal (P := PySem.Challenge.rw_mendweights_k30_widths_refused.prog) (w := w) (base := base) (ps := ["rows"]) KX G (fun _ _ _ _ _ _ => L2.len1 fun _ => rfl) fun f fd F => Mw.ok_one_side_weights F T c37
  obtain ⟨CT, m_chosen, m_take, m_drop_noughts, m_flat_tops, n_Corral⟩ := Mw.corrals (P := PySem.Challenge.rw_mendweights_k30_widths_refused.prog) (w := w) (base := base) PR T c18 c19 c27
  have c31 := d31.cal (P := PySem.Challenge.rw_mendweights_k30_widths_refused.prog) (w := w) (base := base) (ps := ["corral", "tops"]) KX G (fun _ _ _ _ _ _ => L2.len2 fun _ _ => rfl) fun f fd F => Mw.ok_arrived F T m_flat_tops m_drop_noughts c30
  have c32 := d32.cal (P := PySem.Challenge.rw_mendweights_k30_widths_refused.prog) (w := w) (base := base) (ps := ["corral", "tops"]) KX G (fun _ _ _ _ _ _ => L2.len2 fun _ _ => rfl) fun f fd F => Mw.ok_search F T CT c25 m_chosen c18 m_take c31
  have c33 := d33.cal (P := PySem.Challenge.rw_mendweights_k30_widths_refused.prog) (w := w) (base := base) (ps := ["vectors"]) KX G (fun _ _ _ _ _ _ => L2.len1 fun _ => rfl) fun f fd F => Mw.ok_nearest_shares F T CT c19 n_Corral m_take c32 c14
  have c34 := d34.cal (P := PySem.Challenge.rw_mendweights_k30_widths_refused.prog) (w := w) (base := base) (ps := ["vectors"]) KX G (fun _ _ _ _ _ _ => L2.len1 fun _ => rfl) fun f fd F => Mw.ok_nearest_mixture F T c26 c33
  have c43 := d43.cal (P := PySem.Challenge.rw_mendweights_k30_widths_refused.prog) (w := w) (base := base) (ps := ["rows"]) KX G (fun _ _ _ _ _ _ => L2.len1 fun _ => rfl) fun f fd F => Mw.ok_nearest_difference F T c34 c42
  have c45 := d45.calX (P := PySem.Challenge.rw_mendweights_k30_widths_refused.prog) (w := w) (base := base) (ps := ["rows"]) KX G (fun _ _ _ _ _ _ => L2.len1 fun _ => rfl) fun f fd F => Mw.ok_parting F T c20 c38 c44 c23 c43 c18 c37 c14
  have c46 := d46.calX (P := PySem.Challenge.rw_mendweights_k30_widths_refused.prog) (w := w) (base := base) (ps := ["rows"]) KX G (fun _ _ _ _ _ _ => L2.len1 fun _ => rfl) fun f fd F => Mw.ok_sides_mixture F T c39 c40 c33 c42 c15
  have c47 := d47.calX (P := PySem.Challenge.rw_mendweights_k30_widths_refused.prog) (w := w) (base := base) (ps := ["rows"]) KX G (fun _ _ _ _ _ _ => L2.len1 fun _ => rfl) fun f fd F => Mw.ok_width_square F T c39 c43 c15 c16
  have c48 := d48.cal (P := PySem.Challenge.rw_mendweights_k30_widths_refused.prog) (w := w) (base := base) (ps := ["rows", "numbers", "width"]) KX G (fun _ _ _ _ _ _ => L2.len3 fun _ _ _ => rfl) fun f fd F => Mw.ok_hold F T c38 c47
  have c49 := d49.calX (P := PySem.Challenge.rw_mendweights_k30_widths_refused.prog) (w := w) (base := base) (ps := ["rows"]) KX G (fun _ _ _ _ _ _ => L2.len1 fun _ => rfl) fun f fd F => Mw.ok_holders F T c47 c46 c48
  have c51 := d51.cal (P := PySem.Challenge.rw_mendweights_k30_widths_refused.prog) (w := w) (base := base) (ps := ["_law_script", "_law_k"]) KX G (fun _ _ _ _ _ _ => L2.len2 fun _ _ => rfl) fun f fd F => Mw.ok__law_cell_at F T 
  have c52 := d52.cal (P := PySem.Challenge.rw_mendweights_k30_widths_refused.prog) (w := w) (base := base) (ps := ["_law_cell", "_law_k"]) KX G (fun _ _ _ _ _ _ => L2.len2 fun _ _ => rfl) fun f fd F => Mw.ok__law_mixed F T 
  have c53 := d53.cal (P := PySem.Challenge.rw_mendweights_k30_widths_refused.prog) (w := w) (base := base) (ps := ["_law_cell", "_law_most", "_law_many", "_law_way"]) KX G (fun _ _ _ _ _ _ => L2.len4 fun _ _ _ _ => rfl) fun f fd F => Mw.ok__law_draws F T c52
  have c54 := d54.cal (P := PySem.Challenge.rw_mendweights_k30_widths_refused.prog) (w := w) (base := base) (ps := ["_law_draws_here", "_law_far"]) KX G (fun _ _ _ _ _ _ => L2.len2 fun _ _ => rfl) fun f fd F => Mw.ok__law_point F T 
  have c55 := d55.cal (P := PySem.Challenge.rw_mendweights_k30_widths_refused.prog) (w := w) (base := base) (ps := ["_law_point_here", "_law_weights", "_law_draw", "_law_kind"]) KX G (fun _ _ _ _ _ _ => L2.len4 fun _ _ _ _ => rfl) fun f fd F => Mw.ok__law_side F T 
  have c56 := d56.cal (P := PySem.Challenge.rw_mendweights_k30_widths_refused.prog) (w := w) (base := base) (ps := ["_law_script"]) KX G (fun _ _ _ _ _ _ => L2.len1 fun _ => rfl) fun f fd F => Mw.ok__law_sided F T c51 c53 c54 c55
  have c57 := d57.calX (P := PySem.Challenge.rw_mendweights_k30_widths_refused.prog) (w := w) (base := base) (ps := ["_law_rows", "_law_way"]) KX G (fun _ _ _ _ _ _ => L2.len2 fun _ _ => rfl) fun f fd F => Mw.ok__law_asked F T c46 c47 c49 c45
  have c58 := d58.cal (P := PySem.Challenge.rw_mendweights_k30_widths_refused.prog) (w := w) (base := base) (ps := ["_law_caught"]) KX G (fun _ _ _ _ _ _ => L2.len1 fun _ => rfl) fun f fd F => Mw.ok__law_kinds F T PR
  have c59 := d59.cal (P := PySem.Challenge.rw_mendweights_k30_widths_refused.prog) (w := w) (base := base) (ps := ["_law_rows", "_law_way"]) KX G (fun _ _ _ _ _ _ => L2.len2 fun _ _ => rfl) fun f fd F => Mw.ok__law_refused F T PR c57 c58
  exact Mw.ok_law F T c56 c51 c59
