import PyProof.Rows.All
import Wide.All
import OpenK.AllK
import Wide.FinOn
import Lean
import PyProof.EqAt
import PyProof.EqKinds
import PyProof.TupleCall
import PyProof.StationsW
import PyProof.NeKinds
import OpenK.KOwn
import OpenK.KMake
import PyProof.InstStoreFacts
import OpenK.KGet
import PyProof.ExcArgsOwn
import PySem.Challenge.RW_mendweights_k14_books_replayed
set_option Elab.async false
set_option linter.all false
set_option maxRecDepth 100000
namespace L2
open PySem PySem.Spec PyProof.Rows
abbrev Key := Sum Int Str
def keyIs : Key -> Value -> Bool
  | .inl k, v => Value.isInt k v
  | .inr x, v => Value.isStrOf x v
def keyH (w : World) : Key -> Int
  | .inl k => hashInt k
  | .inr x => hashStr w x
theorem keyIs_shape : ∀ {k : Key} {v : Value}, keyIs k v = true -> (∃ i t, k = Sum.inl i /\ v = Value.int i t) \/ (∃ x t, k = Sum.inr x /\ v = Value.str x t)
  | .inl i, v, h => by
    obtain ⟨t, e⟩ := Value.isInt_shape (k := i) (v := v) h
    exact .inl ⟨i, t, rfl, e⟩
  | .inr x, v, h => by
    obtain ⟨t, e⟩ := Value.isStrOf_shape (x := x) (v := v) h
    exact .inr ⟨x, t, rfl, e⟩
theorem key_ll (a b : Int) : decide ((Sum.inl a : Key) = Sum.inl b) = (a == b) := by
  by_cases e : a = b
  · subst e; simp
  · have h : ¬ (Sum.inl a : Key) = Sum.inl b := fun q => e (Sum.inl.inj q)
    rw [decide_eq_false h]
    exact (beq_eq_false_iff_ne.mpr e).symm
theorem key_rr (a b : Str) : decide ((Sum.inr a : Key) = Sum.inr b) = decide (a = b) := by
  by_cases e : a = b
  · subst e; simp
  · have h : ¬ (Sum.inr a : Key) = Sum.inr b := fun q => e (Sum.inr.inj q)
    rw [decide_eq_false h, decide_eq_false e]
theorem key_lr (a : Int) (b : Str) : decide ((Sum.inl a : Key) = Sum.inr b) = false := decide_eq_false (fun q => nomatch q)
theorem key_rl (a : Str) (b : Int) : decide ((Sum.inr a : Key) = Sum.inl b) = false := decide_eq_false (fun q => nomatch q)
def mixKind (prog : Program) (w : World) : PySem.KeyKind prog w Key where
  is := keyIs
  hash := keyH w
  inj := fun v a b ha hb => by
    rcases keyIs_shape ha with ⟨i, t, rfl, rfl⟩ | ⟨x, t, rfl, rfl⟩
    · rcases keyIs_shape hb with ⟨j, u, rfl, e⟩ | ⟨y, u, rfl, e⟩
      · injection e with e1 _; rw [e1]
      · exact nomatch e
    · rcases keyIs_shape hb with ⟨j, u, rfl, e⟩ | ⟨y, u, rfl, e⟩
      · exact nomatch e
      · injection e with e1 _; rw [e1]
  byValue := fun k v h => by
    rcases keyIs_shape h with ⟨i, t, rfl, rfl⟩ | ⟨x, t, rfl, rfl⟩ <;> rfl
  pyHash := fun hv h => by
    rcases keyIs_shape hv with ⟨i, t, rfl, rfl⟩ | ⟨x, t, rfl, rfl⟩
    · exact wpAny_pyHash_int h
    · exact wpAny_pyHash_str h
  eqBool := fun hu hv h => by
    rcases keyIs_shape hu with ⟨i, t, rfl, rfl⟩ | ⟨x, t, rfl, rfl⟩
    · rcases keyIs_shape hv with ⟨j, u, rfl, rfl⟩ | ⟨y, u, rfl, rfl⟩
      · rw [key_ll] at h; exact wpAny_eqBool_int h
      · rw [key_lr] at h; exact SeqAt.EqAt.int_str i t y u _ _ _ _ h
    · rcases keyIs_shape hv with ⟨j, u, rfl, rfl⟩ | ⟨y, u, rfl, rfl⟩
      · rw [key_rl] at h; exact SeqAt.EqAt.str_int x t j u _ _ _ _ h
      · rw [key_rr] at h; exact wpAny_eqBool_str h
  «strs» := fun k x t v h => by
    rcases keyIs_shape h with ⟨i, u, rfl, e⟩ | ⟨y, u, rfl, e⟩
    · exact nomatch e
    · injection e with e1 _
      subst e1
      cases v <;> rfl
end L2
namespace L2
open PySem PySem.Spec PyProof.Rows
inductive V where
  | non | bl (b : Bool) | int (i : Int) | str (x : Str) | byt (b : Array UInt8) | flt (b : UInt64) | ref (a : Addr) | ty (n : String)
  deriving DecidableEq
def RelV : V -> Value -> Prop
  | .non, u => u = Value.none
  | .bl b, u => u = Value.bool b
  | .int i, u => ∃ t, u = Value.int i t
  | .str x, u => ∃ t, u = Value.str x t
  | .byt b, u => ∃ t, u = Value.bytes b t
  | .flt b, u => ∃ t, u = Value.float b t
  | .ref a, u => u = Value.ref a
  | .ty n, u => u = Value.type n
abbrev Vals : List V -> List Value -> Prop := Paired RelV
theorem Vals.length {xs : List V} {us : List Value} (r : Vals xs us) : xs.length = us.length := Paired.length r
theorem Vals.get : ∀ {xs : List V} {us : List Value} {i : Nat} {x : V}, Vals xs us -> xs[i]? = some x -> ∃ u, us[i]? = some u /\ RelV x u
  | _, _, _, _, .nil, e => by simp at e
  | _, _, 0, _, .cons r _, e => by simp at e; subst e; exact ⟨_, rfl, r⟩
  | _, _, i + 1, x, .cons _ t, e => by
    obtain ⟨u, h1, h2⟩ := Vals.get (i := i) (x := x) t (by simpa using e)
    exact ⟨u, by simpa using h1, h2⟩
theorem Vals.set {x : V} {u : Value} (r : RelV x u) : ∀ {xs : List V} {us : List Value} (i : Nat), Vals xs us -> Vals (xs.set i x) (us.set i u)
  | _, _, _, .nil => .nil
  | _, _, 0, .cons _ t => .cons r t
  | _, _, i + 1, .cons q t => .cons q (Vals.set r i t)
theorem Vals.append : ∀ {xs ys : List V} {us ws : List Value}, Vals xs us -> Vals ys ws -> Vals (xs ++ ys) (us ++ ws)
  | _, _, _, _, .nil, s => s
  | _, _, _, _, .cons r t, s => .cons r (Vals.append t s)
theorem Vals.take : ∀ {xs : List V} {us : List Value} (n : Nat), Vals xs us -> Vals (xs.take n) (us.take n)
  | _, _, 0, _ => .nil
  | _, _, _ + 1, .nil => .nil
  | _, _, n + 1, .cons r t => .cons r (Vals.take n t)
theorem Vals.drop : ∀ {xs : List V} {us : List Value} (n : Nat), Vals xs us -> Vals (xs.drop n) (us.drop n)
  | _, _, 0, r => r
  | _, _, _ + 1, .nil => .nil
  | _, _, n + 1, .cons _ t => Vals.drop n t
def RelO : Option V -> Option Value -> Prop
  | some v, some u => RelV v u
  | none, none => True
  | _, _ => False
def KV {κ : Type} : List (κ × V) -> List (κ × Value) -> Prop := Paired fun (p : κ × V) (q : κ × Value) => p.1 = q.1 /\ RelV p.2 q.2
def kV : Key -> V
  | .inl i => .int i
  | .inr x => .str x
inductive HO where
  /-- a list -/
  | lst (xs : List V)
  /-- a tuple (never changes) -/
  | tup (xs : List V)
  /-- a dict whose keys are ints and texts; one whose keys are tuples of ints and texts (the empty one is both) -/
  | dK (kvs : List (Key × V)) | dT (kvs : List (List Key × V))
  /-- a set of ints: its members, its size -/
  | set (S : Int -> Bool) (n : Nat)
  /-- an instance of the class at C, its dict at dx, its attributes -/
  | ins (C dx : Addr) (fs : List (Str × V))
  /-- the dict of the instance at x -/
  | own (x : Addr)
  /-- the dict of an exception -/
  | xd (fs : List (Str × V))
  /-- a bound method, f of x -/
  | met (f x : Addr)
  /-- a range object lo, lo + 1, .. below hi -/
  | rng (lo hi : Int)
  /-- a thing that is known to the object (the script; a dict while a loop walks it): read, never written while it is so -/
  | frz (o : Obj) (u : HO)
  /-- a code object's table -/
  | tbl (ps : Array Value)
  /-- any other thing, by what is true of its one object (a def of one's own: SetO a S n := HO.ext fun h => ..) -/
  | ext (φ : Heap -> Prop)
abbrev Hp := Addr -> Option HO
def upd (H : Hp) (a : Addr) (o : HO) : Hp := fun b => if b = a then some o else H b
theorem upd_same {H : Hp} {a : Addr} {o : HO} : upd H a o a = some o := by unfold upd; rw [if_pos rfl]
theorem upd_ne {H : Hp} {a b : Addr} {o : HO} (h : b ≠ a) : upd H a o b = H b := by unfold upd; rw [if_neg h]
theorem upd_upd {H : Hp} {a : Addr} {o u : HO} : upd (upd H a o) a u = upd H a u := by
  funext b; unfold upd; split <;> rfl
theorem ne_of_none {H : Hp} {a b : Addr} {o : HO} (h : H a = some o) (h' : H b = none) : a ≠ b := by
  intro e; subst e; rw [h] at h'; cases h'
section
variable (P : Program) (w : World)
def ObjOk (H : Hp) (h : Heap) (a : Addr) : HO -> Prop
  | .lst xs => xs.length <= sizeLine /\ ∃ (its : List Value) (n : Nat), Vals xs its /\ h.get? a = some { cls := .type "list", data := .seq its.toArray n }
  | .tup xs => xs.length <= sizeLine /\ ∃ its : List Value, Vals xs its /\ IsTup h a its.toArray
  | .dK kvs => kvs.length <= sizeLine /\ (a == sysModules) = false /\ ∃ vs, KV kvs vs /\ h.DictOf (mixKind P w) a vs
  | .dT kvs => kvs.length <= sizeLine /\ (a == sysModules) = false /\ ∃ xs : List (List Key × Addr × Value),
      Paired (fun (p : List Key × V) (q : List Key × Addr × Value) => p.1 = q.1 /\ H q.2.1 = some (.tup (p.1.map kV)) /\ RelV p.2 q.2.2) kvs xs /\
      ∃ o es ep, h.get? a = some o /\ o.ExactDict /\ o.data = .dict es ep /\ es.toList = xs.map (entryOfKey (tupleKind (mixKind P w))) /\ (xs.map (·.1)).Nodup
  | .set S n => h.SetOf (intKind P w) a S n
  | .ins C dx fs => H dx = some (.own a) /\ fs.length <= 1000 /\ dx ≠ a /\ h.get? a = some (PySem.W.instObj C dx) /\
      ∃ mA, h.Ns1 dx mA /\ (∀ f, RelO (fs.lookup f) (mA f)) /\ PySem.Within mA (fs.map (·.1))
  | .own _ => ∃ o, h.get? a = some o
  | .xd fs => ∃ mA, h.Ns1 a mA /\ ∀ f, RelO (fs.lookup f) (mA f)
  | .rng lo hi => ∃ t u v, h.get? a = some { cls := .type "range", data := .fields #[.int lo t, .int hi u, .int 1 v] }
  | .frz o u => h.get? a = some o /\ ObjOk H h a u
  | .tbl ps => h.get? a = some { cls := .none, data := .fields ps }
  | .met f x => h.get? a = some (PySem.W.methodObj (.ref f) (.ref x))
  | .ext φ => φ h /\ (∃ o, h.get? a = some o) /\ ∀ h1 h2 : Heap, φ h1 -> (∀ o, h1.get? a = some o -> h2.get? a = some o) -> φ h2
def HOk (H : Hp) (h : Heap) : Prop := ∀ a o, H a = some o -> ObjOk P w H h a o
end
section
variable {P : Program} {w : World} {H H' : Hp} {h h' : Heap} {a : Addr} {o : HO}
theorem ObjOk.lt (x : ObjOk P w H h a o) : a < h.objs.size := by
  cases o with
  | lst xs => obtain ⟨_, _, _, _, e⟩ := x; exact Heap.lt_size e
  | tup xs => obtain ⟨_, _, _, p⟩ := x; exact p.lt
  | dK kvs => obtain ⟨_, _, _, _, o, _, _, e, _⟩ := x; exact Heap.lt_size e
  | dT kvs => obtain ⟨_, _, _, _, o, _, _, e, _⟩ := x; exact Heap.lt_size e
  | set S n => obtain ⟨o, _, _, _, e, _⟩ := x; exact Heap.lt_size e
  | ins C dx fs => obtain ⟨_, _, _, e, _⟩ := x; exact Heap.lt_size e
  | own y => obtain ⟨_, e⟩ := x; exact Heap.lt_size e
  | xd fs => obtain ⟨_, ⟨_, _, _, e, _⟩, _⟩ := x; exact Heap.lt_size e
  | rng lo hi => obtain ⟨_, _, _, e⟩ := x; exact Heap.lt_size e
  | frz ob u => obtain ⟨e, _⟩ := x; exact Heap.lt_size e
  | tbl ps => exact Heap.lt_size (show h.get? a = some _ from x)
  | met f y => exact Heap.lt_size (show h.get? a = some _ from x)
  | ext φ => obtain ⟨_, ⟨_, e⟩, _⟩ := x; exact Heap.lt_size e
theorem Paired.mapP {α β : Type} {F G : α -> β -> Prop} : ∀ {l₁ : List α} {l₂ : List β}, Paired F l₁ l₂ -> (∀ a b, F a b -> G a b) -> Paired G l₁ l₂
  | _, _, .nil, _ => .nil
  | _, _, .cons r t, f => .cons (f _ _ r) (Paired.mapP t f)
theorem ObjOk.stay (x : ObjOk P w H h a o) (k : ∀ b u, (b = a \/ H b = some (.own a)) -> h.get? b = some u -> h'.get? b = some u)
    (ho : ∀ b, H b = some (.own a) -> H' b = some (.own a)) (ht : ∀ b xs, H b = some (.tup xs) -> H' b = some (.tup xs)) : ObjOk P w H' h' a o := by
  induction o with
  | lst xs => obtain ⟨z, its, n, r, e⟩ := x; exact ⟨z, its, n, r, k _ _ (.inl rfl) e⟩
  | tup xs => obtain ⟨z, its, r, ob, e, c⟩ := x; exact ⟨z, its, r, ob, k _ _ (.inl rfl) e, c⟩
  | dK kvs => obtain ⟨z, y, vs, r, ob, es, ep, e, c⟩ := x; exact ⟨z, y, vs, r, ob, es, ep, k _ _ (.inl rfl) e, c⟩
  | dT kvs =>
    obtain ⟨z, y, xs, r, ob, es, ep, e, c⟩ := x
    exact ⟨z, y, xs, Paired.mapP r fun p q z => ⟨z.1, ht _ _ z.2.1, z.2.2⟩, ob, es, ep, k _ _ (.inl rfl) e, c⟩
  | set S n => obtain ⟨ob, es, ep, t, e, c⟩ := x; exact ⟨ob, es, ep, t, k _ _ (.inl rfl) e, c⟩
  | ins C dx fs =>
    obtain ⟨d, z, ne, e, mA, ⟨od, es, ep, e2, c⟩, r⟩ := x
    exact ⟨ho _ d, z, ne, k _ _ (.inl rfl) e, mA, ⟨od, es, ep, k _ _ (.inr d) e2, c⟩, r⟩
  | own y => obtain ⟨ob, e⟩ := x; exact ⟨ob, k _ _ (.inl rfl) e⟩
  | xd fs => obtain ⟨mA, ⟨od, es, ep, e, c⟩, r⟩ := x; exact ⟨mA, ⟨od, es, ep, k _ _ (.inl rfl) e, c⟩, r⟩
  | rng lo hi => obtain ⟨t, u, v, e⟩ := x; exact ⟨t, u, v, k _ _ (.inl rfl) e⟩
  | frz ob u ih => obtain ⟨e, q⟩ := x; exact ⟨k _ _ (.inl rfl) e, ih q⟩
  | tbl ps =>
    have e : h.get? a = some { cls := .none, data := .fields ps } := x
    show h'.get? a = some { cls := .none, data := .fields ps }
    exact k a _ (.inl rfl) e
  | met f y =>
    have e : h.get? a = some (PySem.W.methodObj (.ref f) (.ref y)) := x
    show h'.get? a = some (PySem.W.methodObj (.ref f) (.ref y))
    exact k a _ (.inl rfl) e
  | ext φ => obtain ⟨p, ⟨o, e⟩, st⟩ := x; exact ⟨st _ _ p fun o q => k _ _ (.inl rfl) q, ⟨o, k _ _ (.inl rfl) e⟩, st⟩
theorem HOk.lt (x : HOk P w H h) (e : H a = some o) : a < h.objs.size := (x a o e).lt
theorem HOk.fresh (x : HOk P w H h) (e : h.objs.size <= a) : H a = none := by
  cases q : H a with
  | none => rfl
  | some u => exact absurd (Nat.lt_of_lt_of_le (x.lt q) e) (Nat.lt_irrefl _)
theorem HOk.kept (x : HOk P w H h) (k : ∀ b u, h.get? b = some u -> h'.get? b = some u) : HOk P w H h' := fun a o e =>
  (x a o e).stay (fun b u _ q => k b u q) (fun _ q => q) fun _ _ q => q
theorem HOk.laid (x : HOk P w H h) (k : ∀ b u, h.get? b = some u -> h'.get? b = some u) (hp : h.objs.size <= a) (new : ObjOk P w (upd H a o) h' a o) : HOk P w (upd H a o) h' := fun b u e => by
  have hn := x.fresh hp
  by_cases hb : b = a
  · subst hb; rw [upd_same] at e; cases e; exact new
  · rw [upd_ne hb] at e
    exact (x b u e).stay (fun c v _ q => k c v q) (fun c q => by rw [upd_ne (ne_of_none q hn)]; exact q) fun c xs q => by rw [upd_ne (ne_of_none q hn)]; exact q
end
def Rd (H : Hp) (a : Addr) (u : HO) : Prop := H a = some u \/ ∃ o, H a = some (.frz o u)
theorem Rd.ok {P : Program} {w : World} {H : Hp} {h : Heap} {a : Addr} {u : HO} (r : Rd H a u) (x : HOk P w H h) : ObjOk P w H h a u := by
  rcases r with r | ⟨o, r⟩
  · exact x a u r
  · obtain ⟨_, q⟩ := x a _ r
    exact q
def Mut : Option HO -> Prop
  | some (.lst _) => True
  | some (.dK _) => True
  | some (.dT _) => True
  | some (.set _ _) => True
  | some (.ins _ _ _) => True
  | some (.ext _) => True
  | _ => False
section
variable {P : Program} {w : World} {H : Hp} {h h' : Heap} {x e : Addr} {o' : HO}
theorem HOk.write (ok : HOk P w H h) (mu : Mut (H x)) (he : e = x \/ H e = some (.own x)) (k : ∀ b u, b ≠ e -> h.get? b = some u -> h'.get? b = some u) (heo : ∃ u, h'.get? e = some u)
    (new : ObjOk P w (upd H x o') h' x o') : HOk P w (upd H x o') h' := fun b u q => by
  have nown : ∀ c y, H c = some (.own y) -> c ≠ x := fun c y r z => by subst z; rw [r] at mu; exact mu
  have ntup : ∀ c xs, H c = some (.tup xs) -> c ≠ x := fun c xs r z => by subst z; rw [r] at mu; exact mu
  by_cases hb : b = x
  · subst hb; rw [upd_same] at q; cases q; exact new
  · rw [upd_ne hb] at q
    by_cases hbe : b = e
    · have q' : H b = some (.own x) := by
        rcases he with z | z
        · exact absurd (hbe.trans z) hb
        · rw [hbe]; exact z
      rw [q] at q'; cases q'
      obtain ⟨v, hv⟩ := heo
      exact ⟨v, by rw [hbe]; exact hv⟩
    · refine (ok b u q).stay (fun c v hc r => k c v ?_ r) (fun c r => by rw [upd_ne (nown c b r)]; exact r) fun c xs r => by rw [upd_ne (ntup c xs r)]; exact r
      rcases hc with rfl | hc
      · exact hbe
      · rintro rfl
        rcases he with z | z
        · exact nown c b hc z
        · rw [hc] at z; cases z; exact hb rfl
end
structure Un (fs ex : List Addr) (H H' : Hp) (h h' : Heap) : Prop where
  keep : ∀ b o, h.get? b = some o -> H b = none -> b ∉ fs -> b ∉ ex -> h'.get? b = some o
  slot : ∀ b o, h.get? b = some o -> H b = none -> b ∈ fs -> b ∉ ex -> ∃ sl, h'.get? b = some { o with slots := sl }
  free : ∀ b o, h.get? b = some o -> H b = none -> b ∉ ex -> H' b = none
  there : ∀ b o, h.get? b = some o -> b ∉ ex -> ∃ o', h'.get? b = some o'
  tups : ∀ b xs, H b = some (.tup xs) -> H' b = some (.tup xs)
  frzs : ∀ b o u, H b = some (.frz o u) -> H' b = some (.frz o u)
  tbls : ∀ b ps, H b = some (.tbl ps) -> ∃ more, H' b = some (.tbl (ps ++ more))
section
variable {fs fs' ex ex' : List Addr} {H H1 H2 : Hp} {h h1 h2 h' : Heap} {a x e : Addr} {o : HO}
theorem Un.any (u : Un fs ex H H1 h h1) {b : Addr} {ob : Obj} (q : h.get? b = some ob) (n : H b = none) (hx : b ∉ ex) : ∃ sl, h1.get? b = some { ob with slots := sl } := by
  by_cases hb : b ∈ fs
  · exact u.slot b ob q n hb hx
  · exact ⟨ob.slots, u.keep b ob q n hb hx⟩
theorem Un.kept (k : ∀ b u, h.get? b = some u -> h'.get? b = some u) : Un fs ex H H h h' :=
  ⟨fun b ob q _ _ _ => k b ob q, fun b ob q _ _ _ => ⟨ob.slots, k b ob q⟩, fun _ _ _ n _ => n, fun b ob q _ => ⟨ob, k b ob q⟩, fun _ _ q => q, fun _ _ _ q => q, fun _ ps q => ⟨#[], by rw [q]; simp⟩⟩
theorem Un.refl : Un fs ex H H h h := Un.kept fun _ _ q => q
theorem Un.laid (k : ∀ b u, h.get? b = some u -> h'.get? b = some u) (hp : h.objs.size <= a) (hn : H a = none) : Un fs ex H (upd H a o) h h' where
  keep := fun b u q _ _ _ => k b u q
  slot := fun b u q _ _ _ => ⟨u.slots, k b u q⟩
  free := fun b u q n _ => by rw [upd_ne (Nat.ne_of_lt (Nat.lt_of_lt_of_le (Heap.lt_size q) hp))]; exact n
  there := fun b u q _ => ⟨u, k b u q⟩
  tups := fun b xs q => by rw [upd_ne (ne_of_none q hn)]; exact q
  frzs := fun b u xs q => by rw [upd_ne (ne_of_none q hn)]; exact q
  tbls := fun b ps q => ⟨#[], by rw [upd_ne (ne_of_none q hn), q]; simp⟩
theorem Un.write (mu : Mut (H x)) (he : e = x \/ H e = some (.own x)) (k : ∀ b u, b ≠ e -> h.get? b = some u -> h'.get? b = some u) (heo : ∃ u, h'.get? e = some u) : Un fs ex H (upd H x o) h h' := by
  have hx : ∀ b, H b = none -> b ≠ x := fun b n z => by subst z; rw [n] at mu; exact mu
  have hb : ∀ b, H b = none -> b ≠ e := fun b n z => by
    subst z
    rcases he with r | r
    · exact hx b n r
    · rw [n] at r; cases r
  have hm : ∀ b u, H b = some u -> ¬ Mut (some u) -> b ≠ x := fun b u q nm z => by subst z; rw [q] at mu; exact nm mu
  refine ⟨fun b u q n _ _ => k b u (hb b n) q, fun b u q n _ _ => ⟨u.slots, k b u (hb b n) q⟩, fun b u q n _ => by rw [upd_ne (hx b n)]; exact n, fun b u q _ => ?_,
    fun b xs q => by rw [upd_ne (hm b _ q fun z => z)]; exact q, fun b u xs q => by rw [upd_ne (hm b _ q fun z => z)]; exact q, fun b ps q => ⟨#[], by rw [upd_ne (hm b _ q fun z => z), q]; simp⟩⟩
  by_cases hbe : b = e
  · subst hbe; exact heo
  · exact ⟨u, k b u hbe q⟩
end
def trk (h : Heap) (H : Hp) : List Addr := (List.range h.objs.size).filter fun a => (H a).isSome
def hidT (h : Heap) (H : Hp) : Heap := PySem.W.hideAll h (trk h H)
theorem hidT_size (h : Heap) (H : Hp) : (hidT h H).objs.size = h.objs.size := PySem.W.hideAll_size _ _
theorem hidT_get {h : Heap} {H : Hp} {b : Addr} {o : Obj} (e : h.get? b = some o) (n : H b = none) : (hidT h H).get? b = some o :=
  PySem.W.hideAll_get _ e fun hm => by
    have q : (H b).isSome = true := (List.mem_filter.mp hm).2
    rw [n] at q; simp at q
theorem of_hidT {h : Heap} {H : Hp} {b : Addr} {o : Obj} (e : (hidT h H).get? b = some o) : h.get? b = some o /\ H b = none := by
  have e' : h.get? b = some o := PySem.W.of_hideAll (trk h H) e
  refine ⟨e', ?_⟩
  cases q : H b with
  | none => rfl
  | some x =>
    have hm : b ∈ trk h H := List.mem_filter.mpr ⟨List.mem_range.mpr (Heap.lt_size e'), by simp [q]⟩
    have z : (hidT h H).get? b = none := PySem.W.hideAll_none (trk h H) hm
    rw [z] at e; cases e
def allNews (g h : Heap) (L : Addr) : List (Addr × Obj) := (List.range h.objs.size).filterMap fun a => if a = L \/ (g.get? a).isSome = true then none else (h.get? a).map fun o => (a, o)
theorem mem_allNews {g h : Heap} {L a : Addr} {o : Obj} (h1 : a ≠ L) (h2 : g.get? a = none) (h3 : h.get? a = some o) : (a, o) ∈ allNews g h L :=
  List.mem_filterMap.mpr ⟨a, List.mem_range.mpr (Heap.lt_size h3), by simp [h1, h2, h3]⟩
theorem of_mem_allNews {g h : Heap} {L : Addr} {p : Addr × Obj} (hp : p ∈ allNews g h L) : p.1 ≠ L /\ g.get? p.1 = none /\ h.get? p.1 = some p.2 := by
  obtain ⟨b, _, e⟩ := List.mem_filterMap.mp hp
  split at e
  · cases e
  · rename_i hn
    cases q : h.get? b with
    | none => rw [q] at e; simp at e
    | some u =>
      rw [q] at e
      simp only [Option.map_some, Option.some.injEq] at e
      subst e
      refine ⟨fun z => hn (.inl z), ?_, q⟩
      show g.get? b = none
      cases r : g.get? b with
      | none => rfl
      | some v => exact (hn (.inr (by simp [r]))).elim
theorem news_all {g h : Heap} {L : Addr} : News g L h (allNews g h L) := fun p hp => let ⟨a, b, c⟩ := of_mem_allNews hp; ⟨c, a, b⟩
end L2
namespace L2
open PySem PySem.Spec PyProof.Rows
structure Mod (K : PySem.W.Frag) (mg : Str -> Option Value) (base : Heap) : Prop where
  kin : K.In base
  glob : base.Ns mainGlobals mg
  blt : ∃ mb, base.Ns builtinsNs mb /\ ∀ x : Str, x ≠ "__name__" -> mb x = bootBuiltins x
  nolimit : base.NoLimit
structure Cx where
  prog : Program
  w : World
  K : PySem.W.Frag
  mg : Str -> Option Value
  base : Heap
  A : Around
  N : List Str
  s₀ : Shared
  H₀ : Hp
  env : Env
  outer : List Env
  stack : List Env
  ex : List Addr
  fn : Str -> Bool
  calm : Bool
  pn : List (Addr × Obj)
  xe : Value -> Shared -> Prop
def frs (l : List Env) : List Addr := l.filterMap (·.frame)
abbrev Cx.fs (X : Cx) : List Addr := frs X.outer
def Vis (sc : Scope) (x : Str) : Prop := sc.names.lookup x = some .local \/ sc.names.lookup x = some .cell \/ sc.names.lookup x = some .free
def Loc (sc : Scope) (x : Str) : Prop := sc.names.lookup x = some .local \/ sc.names.lookup x = some .cell
def Look (env : Env) (h : Heap) (m : Str -> Option Value) (x : Str) (u : Value) : Prop :=
  (env.kindOf x = some .local /\ m x = some u) \/ ((env.kindOf x = some .cell \/ env.kindOf x = some .free) /\ ∃ c, env.cells.lookup x = some c /\ h.IsCell c (some u))
structure Cx.Ok (X : Cx) : Prop where
  mod : Mod X.K X.mg X.base
  kind : X.env.scope.kind = .function
  glob : X.env.globals = mainGlobals
  blt : X.env.builtins = builtinsNs
  above : X.s₀.heap.objs.size <= X.env.locals
  inj : ∀ x y c, X.env.cells.lookup x = some c -> X.env.cells.lookup y = some c -> x = y
  has : ∀ x, (X.env.kindOf x = some .cell \/ X.env.kindOf x = some .free) -> ∃ c, X.env.cells.lookup x = some c
  cab : ∀ x c, X.fn x = true -> X.env.cells.lookup x = some c -> X.s₀.heap.objs.size <= c
  hd : X.calm = true -> X.A.handled = none
  frames : X.A.frames = some X.stack
  stk : X.stack = X.outer \/ (X.stack = X.env :: X.outer /\ X.env.frame = some X.env.locals)
  exf : ∀ b ∈ X.ex, b ≠ X.env.locals /\ ∀ x c, X.env.cells.lookup x = some c -> c ≠ b
  bs : ∀ b o, X.base.get? b = some o -> X.s₀.heap.get? b = some o /\ X.H₀ b = none
  bsz : X.base.objs.size <= X.s₀.heap.objs.size
  noex : ∀ b o, X.base.get? b = some o -> b ∉ X.ex
  exfs : ∀ b ∈ X.ex, b ∉ X.fs
  funs : X.s₀.heap.FunFrames X.base X.outer
  frf : ∀ b ∈ X.fs, X.H₀ b = none
structure Inv (X : Cx) (pins : List (Addr × Obj)) (σ : List (Option V)) (H : Hp) (s : Shared) : Prop where
  ok : X.Ok
  os : s.os = X.s₀.os
  bare : AllBare s.gens
  base : Un X.fs X.ex X.H₀ H X.s₀.heap s.heap
  loc : ∃ m, s.heap.Ns X.env.locals m /\ ∀ (i : Nat) (x : Str) (v : V), X.N[i]? = some x -> σ[i]? = some (some v) -> Vis X.env.scope x -> ∃ u, RelV v u /\ Look X.env s.heap m x u
  cell : ∀ x c, X.env.cells.lookup x = some c -> ∃ v, s.heap.IsCell c v
  free : H X.env.locals = none
  freeC : ∀ x c, X.env.cells.lookup x = some c -> H c = none
  pin : ∀ p ∈ X.pn ++ pins, s.heap.get? p.1 = some p.2 /\ H p.1 = none /\ p.1 ≠ X.env.locals /\ p.1 ∉ X.fs /\ ∀ v, p.2.data ≠ .cell v
  hok : HOk X.prog X.w H s.heap
  len : σ.length = X.N.length
section
variable {X : Cx} {pins : List (Addr × Obj)} {σ : List (Option V)} {H H' : Hp} {s : Shared} {h' : Heap}
theorem Cx.Ok.nofr (ok : X.Ok) {b : Addr} {o : Obj} (e : X.base.get? b = some o) : b ∉ X.fs := fun hb => by
  have := (ok.funs.mem hb).1
  rw [e] at this; cases this
theorem Inv.bs (I : Inv X pins σ H s) : ∀ b o, X.base.get? b = some o -> s.heap.get? b = some o /\ H b = none := fun b o e =>
  ⟨I.base.keep b o (I.ok.bs b o e).1 (I.ok.bs b o e).2 (I.ok.nofr e) (I.ok.noex b o e), I.base.free b o (I.ok.bs b o e).1 (I.ok.bs b o e).2 (I.ok.noex b o e)⟩
theorem Inv.bk (I : Inv X pins σ H s) : ∀ b o, X.base.get? b = some o -> s.heap.get? b = some o := fun b o e => (I.bs b o e).1
theorem Inv.mod (I : Inv X pins σ H s) : Mod X.K X.mg X.base := I.ok.mod
theorem Inv.kIn (I : Inv X pins σ H s) : X.K.In s.heap := I.ok.mod.kin.keeps I.bk
theorem Inv.fr (I : Inv X pins σ H s) : ∃ m, Fr X.base X.env.locals s.heap m :=
  let ⟨m, hn, _⟩ := I.loc
  ⟨m, hn, I.bk, Nat.le_trans I.ok.bsz I.ok.above⟩
theorem Inv.lt (I : Inv X pins σ H s) : X.env.locals < s.heap.objs.size := let ⟨_, hn, _⟩ := I.loc; hn.lt
theorem Inv.sz (I : Inv X pins σ H s) : X.s₀.heap.objs.size <= s.heap.objs.size := Nat.le_trans I.ok.above (Nat.le_of_lt I.lt)
theorem Inv.nofs (I : Inv X pins σ H s) {a : Addr} (h : s.heap.objs.size <= a) : a ∉ X.fs := fun hb => by
  obtain ⟨_, o, ho, _⟩ := I.ok.funs.mem hb
  exact absurd (Nat.lt_of_lt_of_le (Heap.lt_size ho) (Nat.le_trans I.sz h)) (Nat.lt_irrefl _)
theorem Inv.cne (I : Inv X pins σ H s) : ∀ x c, X.env.cells.lookup x = some c -> c ≠ X.env.locals := fun x c e z => by
  obtain ⟨v, o, ho, hd⟩ := I.cell x c e
  obtain ⟨m, ⟨o', es, ep, ho', hd', _⟩, _⟩ := I.loc
  rw [z, ho'] at ho; cases ho; rw [hd'] at hd; cases hd
theorem Inv.funs (I : Inv X pins σ H s) : s.heap.FunFrames X.base X.outer := by
  have all : ∀ (l : List Env), (∀ b ∈ frs l, b ∈ X.fs) -> X.s₀.heap.FunFrames X.base l -> s.heap.FunFrames X.base l := by
    intro l
    induction l with
    | nil => intro _ _; trivial
    | cons env r ih =>
      intro hs hl
      obtain ⟨hk, ⟨L, o, hf, hn, ho, hd⟩, hr⟩ := hl
      have hL : L ∈ X.fs := hs L (by unfold frs; rw [List.filterMap_cons, hf]; exact List.mem_cons_self)
      obtain ⟨sl, e⟩ := I.base.slot L o ho (I.ok.frf L hL) hL fun z => I.ok.exfs L z hL
      exact ⟨hk, ⟨L, _, hf, hn, e, hd⟩, ih (fun b hb => hs b (by unfold frs; rw [List.filterMap_cons, hf]; exact List.mem_cons_of_mem _ hb)) hr⟩
  exact all X.outer (fun _ hb => hb) I.ok.funs
theorem Inv.stack (I : Inv X pins σ H s) : s.heap.FunFrames X.base X.stack := by
  rcases I.ok.stk with e | ⟨e, hf⟩
  · rw [e]; exact I.funs
  · rw [e]
    obtain ⟨m, hn, _⟩ := I.loc
    refine .cons (by rw [I.ok.kind]; decide) hf hn ?_ I.funs
    exact Heap.get?_none_of_le (Nat.le_trans I.ok.bsz I.ok.above)
theorem Inv.stkSub (I : Inv X pins σ H s) : ∀ b ∈ frs X.stack, b ∈ X.env.locals :: X.fs := fun b hb => by
  rcases I.ok.stk with e | ⟨e, hf⟩
  · rw [e] at hb; exact List.mem_cons_of_mem _ hb
  · rw [e] at hb
    unfold frs at hb
    rw [List.filterMap_cons, hf] at hb
    exact hb
theorem Inv.stkFree (I : Inv X pins σ H s) : ∀ b ∈ frs X.stack, H b = none := fun b hb => by
  rcases List.mem_cons.mp (I.stkSub b hb) with e | hb
  · rw [e]; exact I.free
  · obtain ⟨_, o, ho, _⟩ := I.ok.funs.mem hb
    exact I.base.free b o ho (I.ok.frf b hb) fun z => I.ok.exfs b z hb
theorem Inv.step {g' : Array GenState} {t' : Nat} {d' : Drawn} {ch : List Addr} (I : Inv X pins σ H s)
    (hch : ∀ b ∈ ch, (b ∈ X.ex \/ X.s₀.heap.objs.size <= b) /\ b ≠ X.env.locals /\ (∀ x c, X.env.cells.lookup x = some c -> c ≠ b) /\ ∀ p ∈ X.pn ++ pins, p.1 ≠ b)
    (keep : ∀ b o, b ≠ X.env.locals -> b ∉ X.fs -> b ∉ ch -> s.heap.get? b = some o -> H b = none -> h'.get? b = some o)
    (slot : ∀ b o, b ≠ X.env.locals -> b ∈ X.fs -> b ∉ ch -> s.heap.get? b = some o -> H b = none -> ∃ sl, h'.get? b = some { o with slots := sl }) (free : ∀ b o, b ∉ ch -> s.heap.get? b = some o -> H b = none -> H' b = none)
    (there : ∀ b o, b ∉ ch -> s.heap.get? b = some o -> ∃ o', h'.get? b = some o')
    (tups : ∀ b xs, H b = some (.tup xs) -> H' b = some (.tup xs)) (frzs : ∀ b o u, H b = some (.frz o u) -> H' b = some (.frz o u)) (tbls : ∀ b ps, H b = some (.tbl ps) -> ∃ more, H' b = some (.tbl (ps ++ more)))
    (ns : ∀ m, s.heap.Ns X.env.locals m -> h'.Ns X.env.locals m) (hok : HOk X.prog X.w H' h') (hg : AllBare g') :
    Inv X pins σ H' { s with heap := h', gens := g', drawn := d', toks := t' } := by
  have neL : ∀ b o, X.s₀.heap.get? b = some o -> b ≠ X.env.locals := fun b o e => Nat.ne_of_lt (Nat.lt_of_lt_of_le (Heap.lt_size e) I.ok.above)
  have neC : ∀ b o, X.s₀.heap.get? b = some o -> b ∉ X.ex -> b ∉ ch := fun b o e hx hb => by
    rcases (hch b hb).1 with z | z
    · exact hx z
    · exact absurd (Nat.lt_of_lt_of_le (Heap.lt_size e) z) (Nat.lt_irrefl _)
  have cellK : ∀ x c, X.env.cells.lookup x = some c -> ∀ v, s.heap.IsCell c v -> h'.IsCell c v := fun x c e v ⟨o, ho, hd⟩ => by
    have nch : c ∉ ch := fun z => (hch c z).2.2.1 x c e rfl
    by_cases hc : c ∈ X.fs
    · obtain ⟨sl, q⟩ := slot c o (I.cne x c e) hc nch ho (I.freeC x c e)
      exact ⟨_, q, hd⟩
    · exact ⟨o, keep c o (I.cne x c e) hc nch ho (I.freeC x c e), hd⟩
  refine ⟨I.ok, I.os, hg, ⟨fun b o e n hb hx => ?_, fun b o e n hb hx => ?_, fun b o e n hx => ?_, fun b o e hx => ?_, fun b xs e => tups b xs (I.base.tups b xs e), fun b o xs e => frzs b o xs (I.base.frzs b o xs e), fun b ps e => ?_⟩, ?_, fun x c e => ?_, ?_, fun x c e => ?_, fun p hp => ?_, hok, I.len⟩
  · exact keep b o (neL b o e) hb (neC b o e hx) (I.base.keep b o e n hb hx) (I.base.free b o e n hx)
  · obtain ⟨sl, e1⟩ := I.base.slot b o e n hb hx
    obtain ⟨sl', e2⟩ := slot b _ (neL b o e) hb (neC b o e hx) e1 (I.base.free b o e n hx)
    exact ⟨sl', e2⟩
  · obtain ⟨o', e1⟩ := I.base.there b o e hx
    exact free b o' (neC b o e hx) e1 (I.base.free b o e n hx)
  · obtain ⟨o', e1⟩ := I.base.there b o e hx
    exact there b o' (neC b o e hx) e1
  · obtain ⟨m1, e1⟩ := I.base.tbls b ps e
    obtain ⟨m2, e2⟩ := tbls b _ e1
    exact ⟨m1 ++ m2, by rw [e2, Array.append_assoc]⟩
  · obtain ⟨m, hn, hl⟩ := I.loc
    refine ⟨m, ns m hn, fun i x v e1 e2 e3 => ?_⟩
    obtain ⟨u, r, l⟩ := hl i x v e1 e2 e3
    refine ⟨u, r, ?_⟩
    rcases l with l | ⟨k, c, e, z⟩
    · exact .inl l
    · exact .inr ⟨k, c, e, cellK x c e _ z⟩
  · obtain ⟨v, z⟩ := I.cell x c e
    exact ⟨v, cellK x c e v z⟩
  · obtain ⟨m, ⟨o, _, _, ho, _⟩, _⟩ := I.loc
    exact free _ o (fun z => (hch _ z).2.1 rfl) ho I.free
  · obtain ⟨v, o, ho, hd⟩ := I.cell x c e
    exact free c o (fun z => (hch c z).2.2.1 x c e rfl) ho (I.freeC x c e)
  · obtain ⟨e, n, ne, nf, d⟩ := I.pin p hp
    have nch : p.1 ∉ ch := fun z => (hch p.1 z).2.2.2 p hp rfl
    exact ⟨keep p.1 p.2 ne nf nch e n, free p.1 p.2 nch e n, ne, nf, d⟩
theorem Inv.un {t' : Nat} (I : Inv X pins σ H s) (u : Un X.fs [] H H' s.heap h') (hok : HOk X.prog X.w H' h') : Inv X pins σ H' { s with heap := h', toks := t' } := by
  obtain ⟨m, ⟨o, es, ep, ho, r⟩, _⟩ := id I.loc
  obtain ⟨sl, hL⟩ := u.any ho I.free (by simp)
  exact I.step (g' := s.gens) (d' := s.drawn) (ch := []) (fun _ z => nomatch z) (fun b o _ hb _ e n => u.keep b o e n hb (by simp)) (fun b o _ hb _ e n => u.slot b o e n hb (by simp)) (fun b o _ e n => u.free b o e n (by simp)) (fun b o _ e => u.there b o e (by simp)) u.tups u.frzs u.tbls (fun m' hm => by
    obtain ⟨o', es', ep', ho', r'⟩ := hm
    rw [ho] at ho'; cases ho'
    exact ⟨_, es', ep', hL, r'⟩) hok I.bare
theorem Inv.call {g' : Array GenState} {t' : Nat} {d' : Drawn} {ch : List Addr} (I : Inv X pins σ H s) (u : Un (frs X.stack) ch H H' s.heap h') (hok : HOk X.prog X.w H' h') (hg : AllBare g')
    (hch : ∀ b ∈ ch, (b ∈ X.ex \/ X.s₀.heap.objs.size <= b) /\ b ≠ X.env.locals /\ (∀ x c, X.env.cells.lookup x = some c -> c ≠ b) /\ ∀ p ∈ X.pn ++ pins, p.1 ≠ b) :
    Inv X pins σ H' { s with heap := h', gens := g', drawn := d', toks := t' } := by
  obtain ⟨m, ⟨o, es, ep, ho, r⟩, _⟩ := id I.loc
  obtain ⟨sl, hL⟩ := u.any ho I.free fun z => (hch _ z).2.1 rfl
  exact I.step (ch := ch) hch (fun b o hL hb hc e n => u.keep b o e n (fun z => (List.mem_cons.mp (I.stkSub b z)).elim hL hb) hc) (fun b o _ _ hc e n => u.any e n hc) (fun b o hc e n => u.free b o e n hc) (fun b o hc e => u.there b o e hc) u.tups u.frzs u.tbls (fun m' hm => by
    obtain ⟨o', es', ep', ho', r'⟩ := hm
    rw [ho] at ho'; cases ho'
    exact ⟨_, es', ep', hL, r'⟩) hok hg
theorem Inv.turned {t' : Nat} {it : Addr} (I : Inv X pins σ H s) (k : ∀ b o, b ≠ it -> s.heap.get? b = some o -> h'.get? b = some o) (hn : H it = none) (hL : it ≠ X.env.locals)
    (h1 : it ∈ X.ex \/ X.s₀.heap.objs.size <= it) (h2 : ∀ x c, X.env.cells.lookup x = some c -> c ≠ it) (h3 : ∀ p ∈ X.pn ++ pins, p.1 ≠ it) : Inv X pins σ H { s with heap := h', toks := t' } := by
  have nit : ∀ b u, H b = some u -> b ≠ it := fun b u e z => by rw [z, hn] at e; cases e
  refine I.step (g' := s.gens) (d' := s.drawn) (ch := [it]) (fun b hb => ?_) (fun b o _ _ hc e _ => k b o (fun z => hc (by simp [z])) e) (fun b o _ _ hc e _ => ⟨o.slots, k b o (fun z => hc (by simp [z])) e⟩) (fun _ _ _ _ n => n)
    (fun b o hc e => ⟨o, k b o (fun z => hc (by simp [z])) e⟩) (fun _ _ e => e) (fun _ _ _ e => e) (fun b ps e => ⟨#[], by rw [e]; simp⟩) (fun m hm => ?_) (fun b u e => ?_) I.bare
  · have e : b = it := by simpa using hb
    subst e
    exact ⟨h1, hL, h2, h3⟩
  · obtain ⟨o, es, ep, ho, r⟩ := hm
    exact ⟨o, es, ep, k _ o (Ne.symm hL) ho, r⟩
  · refine (I.hok b u e).stay (fun c v hc q => k c v ?_ q) (fun _ q => q) fun _ _ q => q
    rcases hc with z | z
    · rw [z]; exact nit b u e
    · exact nit c _ z
theorem Inv.tok (I : Inv X pins σ H s) (t : Nat) : Inv X pins σ H { s with toks := t } := I.un (h' := s.heap) (t' := t) Un.refl I.hok
theorem Inv.kept {t' : Nat} (I : Inv X pins σ H s) (k : ∀ b u, s.heap.get? b = some u -> h'.get? b = some u) : Inv X pins σ H { s with heap := h', toks := t' } := I.un (Un.kept k) (I.hok.kept k)
theorem Inv.laid {a : Addr} {o : HO} {t' : Nat} (I : Inv X pins σ H s) (k : ∀ b u, s.heap.get? b = some u -> h'.get? b = some u) (hp : s.heap.objs.size <= a) (new : ObjOk X.prog X.w (upd H a o) h' a o) :
    Inv X pins σ (upd H a o) { s with heap := h', toks := t' } := I.un (Un.laid k hp (I.hok.fresh hp)) (I.hok.laid k hp new)
theorem Inv.write {x e : Addr} {o : HO} {t' : Nat} (I : Inv X pins σ H s) (mu : Mut (H x)) (he : e = x \/ H e = some (.own x)) (k : ∀ b u, b ≠ e -> s.heap.get? b = some u -> h'.get? b = some u) (heo : ∃ u, h'.get? e = some u)
    (new : ObjOk X.prog X.w (upd H x o) h' x o) : Inv X pins σ (upd H x o) { s with heap := h', toks := t' } := I.un (Un.write mu he k heo) (I.hok.write mu he k heo new)
theorem Inv.weak {σ' : List (Option V)} (I : Inv X pins σ H s) (hl : σ'.length = σ.length) (w : ∀ (i : Nat) v, σ'[i]? = some (some v) -> σ[i]? = some (some v)) : Inv X pins σ' H s :=
  ⟨I.ok, I.os, I.bare, I.base, let ⟨m, hn, hl'⟩ := I.loc; ⟨m, hn, fun i x v e1 e2 e3 => hl' i x v e1 (w i v e2) e3⟩, I.cell, I.free, I.freeC, I.pin, I.hok, hl.trans I.len⟩
theorem Inv.pins_of {pins' : List (Addr × Obj)} (I : Inv X pins σ H s) (h : ∀ p ∈ pins', s.heap.get? p.1 = some p.2 /\ H p.1 = none /\ p.1 ≠ X.env.locals /\ p.1 ∉ X.fs /\ ∀ v, p.2.data ≠ .cell v) : Inv X pins' σ H s :=
  ⟨I.ok, I.os, I.bare, I.base, I.loc, I.cell, I.free, I.freeC, fun p hp => (List.mem_append.mp hp).elim (fun z => I.pin p (List.mem_append_left _ z)) (h p), I.hok, I.len⟩
theorem nodup_ix {N : List Str} (hN : N.Nodup) {i j : Nat} {x : Str} (a : N[i]? = some x) (b : N[j]? = some x) : i = j := by
  obtain ⟨h1, e1⟩ := List.getElem?_eq_some_iff.mp a
  obtain ⟨h2, e2⟩ := List.getElem?_eq_some_iff.mp b
  exact (List.getElem_inj hN).mp (e1.trans e2.symm)
theorem store_ok2 {M : Model} {A : Around} {E : Value -> Shared -> Prop} {i : Nat} {x : Str} {v : V} {u : Value} {Q : Unit -> Shared -> Prop} (I : Inv X pins σ H s) (hN : X.N.Nodup) (hi : X.N[i]? = some x) (hx : Loc X.env.scope x) (r : RelV v u)
    (h : ∀ s', Inv X pins (σ.set i (some v)) H s' -> (∃ a, Heap.SameBut a s.heap s'.heap /\ (a = X.env.locals \/ X.env.cells.lookup x = some a)) -> Q () s') (hf : X.fn x = true \/ X.env.scope.names.lookup x = some .local := by first | exact .inl rfl | exact .inr rfl | assumption) : wpAny M A (storeName X.env x u) Q E s := by
  obtain ⟨m, hn, hl⟩ := id I.loc
  have hcls : (X.env.scope.kind == .class || (X.env.scope.kind == .module && X.env.locals != X.env.globals)) = false := by rw [I.ok.kind]; rfl
  have hiσ : i < σ.length := by rw [I.len]; exact (List.getElem?_eq_some_iff.mp hi).1
  have cne := I.cne
  have tracked : ∀ {a : Addr} {h' : Heap}, (∃ o, s.heap.get? a = some o /\ H a = none) -> Heap.SameBut a s.heap h' -> HOk X.prog X.w H h' := fun {a h'} ha hs b ob e => by
    obtain ⟨_, _, hfree⟩ := ha
    refine (I.hok b ob e).stay (fun c w' hc q => (hs.2 c ?_).trans q) (fun _ q => q) fun _ _ q => q
    rintro rfl
    rcases hc with rfl | hc
    · rw [hfree] at e; cases e
    · rw [hfree] at hc; cases hc
  rcases hx with hk | hk
  · refine wpAny_storeName_local hk hn (fun h' hn' hs => ?_) hcls
    obtain ⟨oL, _, _, hoL, _⟩ := id hn
    refine h _ ⟨I.ok, I.os, I.bare, ⟨fun b o e n hb hx => ?_, fun b o e n hb hx => ?_, I.base.free, fun b o e hx => ?_, I.base.tups, I.base.frzs, I.base.tbls⟩, ⟨_, hn', fun j y v' e1 e2 e3 => ?_⟩, fun y c e => ?_, I.free, I.freeC, fun p hp => ?_, tracked ⟨oL, hoL, I.free⟩ hs, by simpa using I.len⟩ ⟨_, hs, .inl rfl⟩
    · exact (hs.2 b (Nat.ne_of_lt (Nat.lt_of_lt_of_le (Heap.lt_size e) I.ok.above))).trans (I.base.keep b o e n hb hx)
    · obtain ⟨sl, e1⟩ := I.base.slot b o e n hb hx
      exact ⟨sl, (hs.2 b (Nat.ne_of_lt (Nat.lt_of_lt_of_le (Heap.lt_size e) I.ok.above))).trans e1⟩
    · obtain ⟨o', e1⟩ := I.base.there b o e hx
      exact ⟨o', (hs.2 b (Nat.ne_of_lt (Nat.lt_of_lt_of_le (Heap.lt_size e) I.ok.above))).trans e1⟩
    · by_cases hj : j = i
      · subst hj
        rw [hi] at e1; cases e1
        rw [List.getElem?_set_self hiσ] at e2
        cases e2
        exact ⟨u, r, .inl ⟨hk, by simp⟩⟩
      · rw [List.getElem?_set_ne (Ne.symm hj)] at e2
        obtain ⟨u', r', q⟩ := hl j y v' e1 e2 e3
        refine ⟨u', r', ?_⟩
        rcases q with ⟨k, e⟩ | ⟨k, c, e, z⟩
        · refine .inl ⟨k, ?_⟩
          have : y ≠ x := fun e => hj (nodup_ix hN e1 (e ▸ hi))
          simp [this, e]
        · exact .inr ⟨k, c, e, z.sameBut hs (cne y c e)⟩
    · obtain ⟨w', z⟩ := I.cell y c e
      exact ⟨w', z.sameBut hs (cne y c e)⟩
    · obtain ⟨e, n, ne, nf, d⟩ := I.pin p hp
      exact ⟨(hs.2 p.1 ne).trans e, n, ne, nf, d⟩
  · have hfn : X.fn x = true := by
      rcases hf with z | z
      · exact z
      · rw [z] at hk; cases hk
    obtain ⟨c, hc⟩ := I.ok.has x (.inl hk)
    obtain ⟨w', z⟩ := I.cell x c hc
    refine wpAny_storeName_cell I.ok.kind hk hc z (fun h' hc' hs => ?_)
    obtain ⟨oc, hoc, hocd⟩ := id z
    refine h { s with heap := h' } ⟨I.ok, I.os, I.bare, ⟨fun b o e n hb hx => ?_, fun b o e n hb hx => ?_, I.base.free, fun b o e hx => ?_, I.base.tups, I.base.frzs, I.base.tbls⟩, ⟨m, hn.sameBut hs (Ne.symm (cne x c hc)), fun j y v' e1 e2 e3 => ?_⟩, fun y c' e => ?_, I.free, I.freeC, fun p hp => ?_, tracked ⟨oc, hoc, I.freeC x c hc⟩ hs, by simpa using I.len⟩ ⟨c, hs, .inr hc⟩
    · exact (hs.2 b (Nat.ne_of_lt (Nat.lt_of_lt_of_le (Heap.lt_size e) (I.ok.cab x c hfn hc)))).trans (I.base.keep b o e n hb hx)
    · obtain ⟨sl, e1⟩ := I.base.slot b o e n hb hx
      exact ⟨sl, (hs.2 b (Nat.ne_of_lt (Nat.lt_of_lt_of_le (Heap.lt_size e) (I.ok.cab x c hfn hc)))).trans e1⟩
    · obtain ⟨o', e1⟩ := I.base.there b o e hx
      exact ⟨o', (hs.2 b (Nat.ne_of_lt (Nat.lt_of_lt_of_le (Heap.lt_size e) (I.ok.cab x c hfn hc)))).trans e1⟩
    · by_cases hj : j = i
      · subst hj
        rw [hi] at e1; cases e1
        rw [List.getElem?_set_self hiσ] at e2
        cases e2
        exact ⟨u, r, .inr ⟨.inl hk, c, hc, hc'⟩⟩
      · rw [List.getElem?_set_ne (Ne.symm hj)] at e2
        obtain ⟨u', r', q⟩ := hl j y v' e1 e2 e3
        refine ⟨u', r', ?_⟩
        rcases q with q | ⟨k, c', e, z'⟩
        · exact .inl q
        · refine .inr ⟨k, c', e, z'.sameBut hs ?_⟩
          rintro rfl
          exact hj (nodup_ix hN e1 (I.ok.inj _ _ _ e hc ▸ hi))
    · by_cases hcc : c' = c
      · subst hcc; exact ⟨_, hc'⟩
      · obtain ⟨w2, z2⟩ := I.cell y c' e
        exact ⟨w2, z2.sameBut hs hcc⟩
    · obtain ⟨e, n, ne, nf, d⟩ := I.pin p hp
      refine ⟨(hs.2 p.1 ?_).trans e, n, ne, nf, d⟩
      intro q
      rw [q, hoc] at e
      have q' : oc = p.2 := Option.some.inj e
      exact d w' (by rw [<- q']; exact hocd)
theorem store_ok {M : Model} {A : Around} {E : Value -> Shared -> Prop} {i : Nat} {x : Str} {v : V} {u : Value} {Q : Unit -> Shared -> Prop} (I : Inv X pins σ H s) (hN : X.N.Nodup) (hi : X.N[i]? = some x) (hx : Loc X.env.scope x) (r : RelV v u)
    (h : ∀ s', Inv X pins (σ.set i (some v)) H s' -> Q () s') (hf : X.fn x = true \/ X.env.scope.names.lookup x = some .local := by first | exact .inl rfl | exact .inr rfl | assumption) : wpAny M A (storeName X.env x u) Q E s :=
  store_ok2 I hN hi hx r (fun s' I' _ => h s' I') hf
theorem Inv.call' {s' : Shared} {ch : List Addr} (I : Inv X pins σ H s) (ho : s'.os = s.os) (u : Un (frs X.stack) ch H H' s.heap s'.heap) (hok : HOk X.prog X.w H' s'.heap) (hg : AllBare s'.gens)
    (hch : ∀ b ∈ ch, (b ∈ X.ex \/ X.s₀.heap.objs.size <= b) /\ b ≠ X.env.locals /\ (∀ x c, X.env.cells.lookup x = some c -> c ≠ b) /\ ∀ p ∈ X.pn ++ pins, p.1 ≠ b) : Inv X pins σ H' s' := by
  obtain ⟨h', g', d', t', o'⟩ := s'
  have e : o' = s.os := ho
  subst e
  exact I.call (g' := g') (t' := t') (d' := d') u hok hg hch
end
abbrev XK := Value -> Option Addr -> Hp -> Prop
abbrev St := List (Option V)
abbrev VK := V -> Hp -> Prop
abbrev TE := St -> Hp -> VK -> Prop
abbrev TT := St -> Hp -> (Bool -> Hp -> Prop) -> Prop
abbrev TA := St -> Hp -> (List V -> Hp -> Prop) -> Prop
structure Ends where
  nx : St -> Hp -> Prop
  rt : VK
  bk : St -> Hp -> Prop := fun _ _ => False
  ct : St -> Hp -> Prop := fun _ _ => False
abbrev TS := Ends -> St -> Hp -> Prop
def EP (X : Cx) (pins : List (Addr × Obj)) (σ : St) (Q : VK) (u : Value) (s' : Shared) : Prop := ∃ v H', Inv X pins σ H' s' /\ RelV v u /\ Q v H'
def TP (X : Cx) (pins : List (Addr × Obj)) (σ : St) (Q : Bool -> Hp -> Prop) (b : Bool) (s' : Shared) : Prop := ∃ H', Inv X pins σ H' s' /\ Q b H'
def AP (X : Cx) (pins : List (Addr × Obj)) (σ : St) (Q : List V -> Hp -> Prop) (us : List Value) (s' : Shared) : Prop := ∃ vs H', Inv X pins σ H' s' /\ Vals vs us /\ Q vs H'
def SP (X : Cx) (pins : List (Addr × Obj)) (D : Ends) (f : Flow) (s' : Shared) : Prop :=
  match f with
  | .next => ∃ σ' H', Inv X pins σ' H' s' /\ D.nx σ' H'
  | .brk => ∃ σ' H', Inv X pins σ' H' s' /\ D.bk σ' H'
  | .cont => ∃ σ' H', Inv X pins σ' H' s' /\ D.ct σ' H'
  | .ret u => ∃ v σ' H', Inv X pins σ' H' s' /\ RelV v u /\ D.rt v H'
def PE (X : Cx) (e : Expr) (t : TE) : Prop :=
  ∀ (pins : List (Addr × Obj)) (s : Shared) (σ : St) (H : Hp) (Q : VK), Inv X pins σ H s -> t σ H Q -> wpAny (model X.prog X.w) X.A (eval e X.env) (EP X pins σ Q) X.xe s
def PT (X : Cx) (e : Expr) (t : TT) : Prop :=
  ∀ (pins : List (Addr × Obj)) (s : Shared) (σ : St) (H : Hp) (Q : Bool -> Hp -> Prop), Inv X pins σ H s -> t σ H Q -> wpAny (model X.prog X.w) X.A (isTrue e X.env (eval e X.env)) (TP X pins σ Q) X.xe s
def PW (X : Cx) (e : Expr) (t : TT) : Prop :=
  ∀ (whole : Sem Value) (pins : List (Addr × Obj)) (s : Shared) (σ : St) (H : Hp) (Q : Bool -> Hp -> Prop), Inv X pins σ H s -> t σ H Q -> wpAny (model X.prog X.w) X.A (isTrue e X.env whole) (TP X pins σ Q) X.xe s
theorem PW.pt {X : Cx} {e : Expr} {t : TT} (h : PW X e t) : PT X e t := h _
def PA (X : Cx) (es : List Expr) (t : TA) : Prop :=
  ∀ (pos : Pos) (pins : List (Addr × Obj)) (s : Shared) (σ : St) (H : Hp) (Q : List V -> Hp -> Prop), Inv X pins σ H s -> t σ H Q -> wpAny (model X.prog X.w) X.A (spliced (backTo pos (starEach es X.env))) (AP X pins σ Q) X.xe s
def PS (X : Cx) (st : Stmt) (t : TS) : Prop :=
  ∀ (pins : List (Addr × Obj)) (s : Shared) (σ : St) (H : Hp) (D : Ends), Inv X pins σ H s -> t D σ H -> wpAny (model X.prog X.w) X.A (exec st X.env) (SP X pins D) X.xe s
def PSs (X : Cx) (st : List Stmt) (t : TS) : Prop :=
  ∀ (pins : List (Addr × Obj)) (s : Shared) (σ : St) (H : Hp) (D : Ends), Inv X pins σ H s -> t D σ H -> wpAny (model X.prog X.w) X.A (execs st X.env) (SP X pins D) X.xe s
theorem thn {α : Type} {t : Sem α} {Q Q' : α -> Shared -> Prop} {M : Model} {A : Around} {E : Value -> Shared -> Prop} {s : Shared} (h : wpAny M A t Q E s) (hQ : ∀ a s, Q a s -> Q' a s) : wpAny M A t Q' E s := wpAny_mono h hQ fun _ _ x => x
end L2
namespace L2
open PySem PySem.Spec PyProof.Rows
section
variable {X : Cx}
theorem bin {a b : Expr} {ta tb : TE} (ha : PE X a ta) (hb : PE X b tb) {pins : List (Addr × Obj)} {s : Shared} {σ : St} {H : Hp} {R : V -> V -> Hp -> Prop} (I : Inv X pins σ H s) (h : ta σ H fun x H1 => tb σ H1 fun y H2 => R x y H2)
    {α : Type} {Q : α -> Shared -> Prop} {f : Value -> Value -> Sem α}
    (hf : ∀ v u s2 x y H2, Inv X pins σ H2 s2 -> RelV x v -> RelV y u -> R x y H2 -> wpAny (model X.prog X.w) X.A (f v u) Q X.xe s2) :
    wpAny (model X.prog X.w) X.A (eval a X.env) (fun v s₁ => wpAny (model X.prog X.w) X.A (eval b X.env) (fun u s₂ => wpAny (model X.prog X.w) X.A (f v u) Q X.xe s₂) X.xe s₁) X.xe s := by
  refine thn (ha pins s σ H _ I h) fun v s1 ⟨x, H1, I1, r1, q1⟩ => ?_
  refine thn (hb pins s1 σ H1 _ I1 q1) fun u s2 ⟨y, H2, I2, r2, q2⟩ => ?_
  exact hf v u s2 x y H2 I2 r1 r2 q2
def tVar (i : Nat) : TE := fun σ H Q => ∃ v, σ[i]? = some (some v) /\ Q v H
def tC (v : V) : TE := fun _ H Q => Q v H
theorem pe_var {i : Nat} {x : Str} {pos : Pos} (hN : X.N[i]? = some x) (hv : Vis X.env.scope x) (hd : (x == ("__debug__" : Str)) = false := by decide) (hcd : (x == ("__classdict__" : Str)) = false := by decide) : PE X (.Name x pos) (tVar i) := by
  intro pins s σ H Q I h
  obtain ⟨v, e, h⟩ := h
  obtain ⟨m, hn, hl⟩ := I.loc
  obtain ⟨u, r, l⟩ := hl i x v hN e hv
  have fin : EP X pins σ Q u s := ⟨v, H, I, r, h⟩
  rcases l with ⟨hk, hm⟩ | ⟨hk, c, hc, hcell⟩
  · exact wpAny_Name (wpAny_loadName_local I.ok.kind hk hn hm fin) hd
  · rcases hk with hk | hk
    · exact wpAny_Name (wpAny_loadName_cell I.ok.kind hk hc hcell fin) hd
    · exact wpAny_Name (wpAny_loadName_free I.ok.kind hk hc hcell fin hcd) hd
theorem pe_int {i j pos} : PE X (.Constant (.int i) j pos) (tC (.int i)) := fun _ _ _ H _ I h => wpAny_Constant_int ⟨.int i, H, I.tok _, ⟨_, rfl⟩, h⟩
theorem pe_bl {b j pos} : PE X (.Constant (.bool b) j pos) (tC (.bl b)) := fun _ _ _ H _ I h => Constant_bool ⟨.bl b, H, I, rfl, h⟩
theorem pe_non {j pos} : PE X (.Constant .none j pos) (tC .non) := fun _ _ _ H _ I h => Constant_none ⟨.non, H, I, rfl, h⟩
theorem pe_str {x j pos} : PE X (.Constant (.str x) j pos) (tC (.str x)) := fun _ _ _ H _ I h => Calls.Constant_str ⟨.str x, H, I.tok _, ⟨_, rfl⟩, h⟩
def Gl (X : Cx) (x : Str) : Prop := X.env.kindOf x = some .globalImplicit
theorem ld_glob {E : Value -> Shared -> Prop} {pins : List (Addr × Obj)} {s : Shared} {σ : St} {H : Hp} {x : Str} {u : Value} {pos : Pos} {Q : Value -> Shared -> Prop} (I : Inv X pins σ H s) (hg : Gl X x) (hm : X.mg x = some u) (h : Q u s)
    (hd : (x == ("__debug__" : Str)) = false := by decide) : wpAny (model X.prog X.w) X.A (eval (.Name x pos) X.env) Q E s :=
  Calls.Name_function_global I.ok.kind hg (Calls.loadGlobal_global (by rw [I.ok.glob]; exact I.mod.glob.keeps I.bk) hm h) hd
theorem ld_blt {E : Value -> Shared -> Prop} {pins : List (Addr × Obj)} {s : Shared} {σ : St} {H : Hp} {x : Str} {u : Value} {pos : Pos} {Q : Value -> Shared -> Prop} (I : Inv X pins σ H s) (hg : Gl X x) (hm : X.mg x = none) (hv : bootBuiltins x = some u) (h : Q u s)
    (hn : x ≠ "__name__" := by decide) (hd : (x == ("__debug__" : Str)) = false := by decide) : wpAny (model X.prog X.w) X.A (eval (.Name x pos) X.env) Q E s := by
  obtain ⟨mb, h1, h2⟩ := I.mod.blt
  exact Calls.Name_function_global I.ok.kind hg (Calls.loadGlobal_builtin (by rw [I.ok.glob]; exact I.mod.glob.keeps I.bk) hm (by rw [I.ok.blt]; exact h1.keeps I.bk) ((h2 x hn).trans hv) h) hd
theorem pe_glob {x : Str} {v : V} {u : Value} {pos : Pos} (hg : Gl X x) (hm : X.mg x = some u) (r : RelV v u) (hd : (x == ("__debug__" : Str)) = false := by decide) : PE X (.Name x pos) (tC v) :=
  fun _ _ _ H _ I h => ld_glob I hg hm ⟨v, H, I, r, h⟩ hd
theorem pe_bltn {x : Str} {v : V} {u : Value} {pos : Pos} (hg : Gl X x) (hm : X.mg x = none) (hv : bootBuiltins x = some u) (r : RelV v u) (hn : x ≠ "__name__" := by decide) (hd : (x == ("__debug__" : Str)) = false := by decide) : PE X (.Name x pos) (tC v) :=
  fun _ _ _ H _ I h => ld_blt I hg hm hv ⟨v, H, I, r, h⟩ hn hd
variable {a b : Expr} {ta tb : TE} {pos : Pos}
def tB (t : TE) : TT := fun σ H Q => t σ H fun x H1 => ∃ c, x = .bl c /\ Q c H1
theorem pt_val {e : Expr} {t : TE} (h : PE X e t) (he : ∀ whole, isTrue e X.env whole = (do let v <- whole; standAt e.pos; holding [v] (truthy v)) := by intro _; rfl) : PT X e (tB t) := by
  intro pins s σ H Q I hw
  refine isTrue_plain (thn (h pins s σ H _ I hw) fun v s1 ⟨x, H1, I1, r1, q1⟩ => ?_) (he _)
  obtain ⟨d, rfl, q⟩ := q1
  cases r1
  exact wpAny_truthy_bool ⟨H1, I1, q⟩
variable {tA tB' : TT} {rest : List Expr}
def tAnd (t u : TT) : TT := fun σ H Q => t σ H fun c H1 => if c = true then u σ H1 Q else Q false H1
def tOr (t u : TT) : TT := fun σ H Q => t σ H fun c H1 => if c = true then Q true H1 else u σ H1 Q
def tNot (t : TT) : TT := fun σ H Q => t σ H fun c H1 => Q (!c) H1
theorem pw_and1 (ha : PT X a tA) : PW X (.BoolOp .And [a] pos) tA := by
  intro wh pins s σ H Q I h
  refine isTrue_and (thn (ha pins s σ H Q I h) fun c s1 e => ?_)
  cases c with
  | true => exact isTrue_and_nil e
  | false => exact e
theorem pw_or1 (ha : PT X a tA) : PW X (.BoolOp .Or [a] pos) tA := by
  intro wh pins s σ H Q I h
  refine isTrue_or (thn (ha pins s σ H Q I h) fun c s1 e => ?_)
  cases c with
  | false => exact isTrue_or_nil e
  | true => exact e
theorem pw_and (ha : PT X a tA) (hb : PW X (.BoolOp .And (b :: rest) pos) tB') : PW X (.BoolOp .And (a :: b :: rest) pos) (tAnd tA tB') := by
  intro wh pins s σ H Q I h
  refine isTrue_and (thn (ha pins s σ H _ I h) fun c s1 ⟨H1, I1, q1⟩ => ?_)
  cases c with
  | true => exact hb wh pins s1 σ H1 Q I1 q1
  | false => exact ⟨H1, I1, q1⟩
theorem pw_or (ha : PT X a tA) (hb : PW X (.BoolOp .Or (b :: rest) pos) tB') : PW X (.BoolOp .Or (a :: b :: rest) pos) (tOr tA tB') := by
  intro wh pins s σ H Q I h
  refine isTrue_or (thn (ha pins s σ H _ I h) fun c s1 ⟨H1, I1, q1⟩ => ?_)
  cases c with
  | true => exact ⟨H1, I1, q1⟩
  | false => exact hb wh pins s1 σ H1 Q I1 q1
theorem pt_not (ha : PT X a tA) : PT X (.UnaryOp .Not a pos) (tNot tA) := by
  intro pins s σ H Q I h
  exact isTrue_not (ha pins s σ H (fun c H1 => Q (!c) H1) I h)
def tAndV (ta tb : TE) : TE := fun σ H Q => ta σ H fun x H1 => ∃ c, x = .bl c /\ if c = true then tb σ H1 Q else Q (.bl false) H1
def tOrV (ta tb : TE) : TE := fun σ H Q => ta σ H fun x H1 => ∃ c, x = .bl c /\ if c = true then Q (.bl true) H1 else tb σ H1 Q
def tNotV (ta : TE) : TE := fun σ H Q => ta σ H fun x H1 => ∃ c, x = .bl c /\ Q (.bl (!c)) H1
theorem pe_one {op} {t : TE} (h : PE X a t) : PE X (.BoolOp op [a] pos) t := fun pins s σ H Q I hw => BoolOp_one (h pins s σ H Q I hw)
theorem pe_and (ha : PE X a ta) (hb : PE X (.BoolOp .And (b :: rest) pos) tb) : PE X (.BoolOp .And (a :: b :: rest) pos) (tAndV ta tb) := by
  intro pins s σ H Q I h
  refine BoolOp_and (thn (ha pins s σ H _ I h) fun v s1 ⟨x, H1, I1, r1, q1⟩ => ?_)
  obtain ⟨c, rfl, q1⟩ := q1
  cases r1
  refine wpAny_truthy_bool ?_
  cases c with
  | true => exact hb pins s1 σ H1 Q I1 q1
  | false => exact ⟨.bl false, H1, I1, rfl, q1⟩
theorem pe_or (ha : PE X a ta) (hb : PE X (.BoolOp .Or (b :: rest) pos) tb) : PE X (.BoolOp .Or (a :: b :: rest) pos) (tOrV ta tb) := by
  intro pins s σ H Q I h
  refine BoolOp_or (thn (ha pins s σ H _ I h) fun v s1 ⟨x, H1, I1, r1, q1⟩ => ?_)
  obtain ⟨c, rfl, q1⟩ := q1
  cases r1
  refine wpAny_truthy_bool ?_
  cases c with
  | false => exact hb pins s1 σ H1 Q I1 q1
  | true => exact ⟨.bl true, H1, I1, rfl, q1⟩
theorem pe_not (ha : PE X a ta) : PE X (.UnaryOp .Not a pos) (tNotV ta) := by
  intro pins s σ H Q I h
  refine UnaryOp_ (thn (ha pins s σ H _ I h) fun v s1 ⟨x, H1, I1, r1, q1⟩ => ?_)
  obtain ⟨c, rfl, q1⟩ := q1
  cases r1
  exact not_of (wpAny_truthy_bool ⟨.bl (!c), H1, I1, rfl, q1⟩)
def tIf (t : TT) (ta tb : TE) : TE := fun σ H Q => t σ H fun c H1 => if c = true then ta σ H1 Q else tb σ H1 Q
theorem pe_ifExp {c : Expr} (hc : PT X c tA) (ha : PE X a ta) (hb : PE X b tb) : PE X (.IfExp c a b pos) (tIf tA ta tb) := by
  intro pins s σ H Q I h
  refine wpAny_IfExp (thn (hc pins s σ H _ I h) fun d s1 ⟨H1, I1, q1⟩ => ?_)
  cases d with
  | true => exact ha pins s1 σ H1 Q I1 q1
  | false => exact hb pins s1 σ H1 Q I1 q1
end
end L2
namespace L2
open PySem PySem.Spec PyProof.Rows
def SqL (K : PySem.W.Frag) (H : Hp) (a : Addr) (xs : List V) : Prop :=
  Rd H a (.lst xs) \/
    ∃ (o : Obj) (its : Array Value) (n : Nat), K.lookup a = some o /\ o.cls = .type "list" /\ o.dict = none /\ o.data = .seq its n /\ its.size <= sizeLine /\ Vals xs its.toList
def SqT (K : PySem.W.Frag) (H : Hp) (a : Addr) (xs : List V) : Prop :=
  Rd H a (.tup xs) \/
    ∃ (o : Obj) (its : Array Value) (n : Nat), K.lookup a = some o /\ o.cls = .type "tuple" /\ o.data = .seq its n /\ its.size <= sizeLine /\ Vals xs its.toList
def absV : Value -> Option V
  | .none => some .non
  | .bool b => some (.bl b)
  | .int i _ => some (.int i)
  | .str x _ => some (.str x)
  | .bytes b _ => some (.byt b)
  | .float b _ => some (.flt b)
  | .ref a => some (.ref a)
  | .type n => some (.ty n)
  | _ => none
theorem RelV.abs {x : V} {u : Value} (r : RelV x u) : absV u = some x := by
  cases x with
  | non => cases r; rfl
  | bl _ => cases r; rfl
  | int _ => obtain ⟨t, rfl⟩ := r; rfl
  | str _ => obtain ⟨t, rfl⟩ := r; rfl
  | byt _ => obtain ⟨t, rfl⟩ := r; rfl
  | flt _ => obtain ⟨t, rfl⟩ := r; rfl
  | ref _ => cases r; rfl
  | ty _ => cases r; rfl
theorem RelV.inj {x y : V} {u : Value} (r : RelV x u) (q : RelV y u) : x = y := Option.some.inj (r.abs.symm.trans q.abs)
theorem Vals.inj : ∀ {xs ys : List V} {us : List Value}, Vals xs us -> Vals ys us -> xs = ys
  | _, _, _, .nil, .nil => rfl
  | _, _, _, .cons r t, .cons r' t' => by rw [r.inj r', Vals.inj t t']
section
variable {X : Cx} {pins : List (Addr × Obj)} {σ : St} {H : Hp} {s : Shared} {a : Addr} {xs ys : List V}
theorem SqL.of {K : PySem.W.Frag} (h : H a = some (.lst xs)) : SqL K H a xs := .inl (.inl h)
theorem SqT.of {K : PySem.W.Frag} (h : H a = some (.tup xs)) : SqT K H a xs := .inl (.inl h)
theorem Inv.list (I : Inv X pins σ H s) (h : SqL X.K H a xs) : ∃ its : List Value, Vals xs its /\ PlainL s.heap a its.toArray /\ xs.length <= sizeLine := by
  rcases h with h | ⟨o, its, n, hk, hc, hd, hs, hz, r⟩
  · obtain ⟨z, its, n, r, e⟩ := h.ok I.hok
    exact ⟨its, r, ⟨_, n, e, rfl, rfl, rfl⟩, z⟩
  · refine ⟨its.toList, r, ⟨o, n, I.kIn a o hk, hc, hd, by simpa using hs⟩, ?_⟩
    have e := r.length
    simp only [Array.length_toList] at e
    omega
theorem Inv.tuple (I : Inv X pins σ H s) (h : SqT X.K H a xs) : ∃ its : List Value, Vals xs its /\ IsTup s.heap a its.toArray /\ xs.length <= sizeLine := by
  rcases h with h | ⟨o, its, n, hk, hc, hs, hz, r⟩
  · obtain ⟨z, its, r, p⟩ := h.ok I.hok
    exact ⟨its, r, p, z⟩
  · refine ⟨its.toList, r, ⟨o, I.kIn a o hk, hc, n, by simpa using hs⟩, ?_⟩
    have e := r.length
    simp only [Array.length_toList] at e
    omega
theorem Inv.list_inj (I : Inv X pins σ H s) (h : SqL X.K H a xs) (h' : SqL X.K H a ys) : xs = ys := by
  obtain ⟨its, r, ⟨o, n, e, _, _, d⟩, _⟩ := I.list h
  obtain ⟨its', r', ⟨o', n', e', _, _, d'⟩, _⟩ := I.list h'
  rw [e] at e'; cases e'
  rw [d] at d'
  injection d' with d1 _
  have : its = its' := by simpa using congrArg Array.toList d1
  subst this
  exact r.inj r'
theorem Inv.tuple_inj (I : Inv X pins σ H s) (h : SqT X.K H a xs) (h' : SqT X.K H a ys) : xs = ys := by
  obtain ⟨its, r, ⟨o, e, _, n, d⟩, _⟩ := I.tuple h
  obtain ⟨its', r', ⟨o', e', _, n', d'⟩, _⟩ := I.tuple h'
  rw [e] at e'; cases e'
  rw [d] at d'
  injection d' with d1 _
  have : its = its' := by simpa using congrArg Array.toList d1
  subst this
  exact r.inj r'
end
abbrev Cx.wish (X : Cx) (E : Value -> Shared -> Prop) : Cx := { X with xe := E }
abbrev Cx.nox (X : Cx) : Cx := X.wish fun _ _ => False
theorem Cx.Ok.wish {X : Cx} (ok : X.Ok) (E : Value -> Shared -> Prop) : (X.wish E).Ok :=
  ⟨ok.mod, ok.kind, ok.glob, ok.blt, ok.above, ok.inj, ok.has, ok.cab, ok.hd, ok.frames, ok.stk, ok.exf, ok.bs, ok.bsz, ok.noex, ok.exfs, ok.funs, ok.frf⟩
theorem Cx.Ok.unwish {X : Cx} {E : Value -> Shared -> Prop} (ok : (X.wish E).Ok) : X.Ok :=
  ⟨ok.mod, ok.kind, ok.glob, ok.blt, ok.above, ok.inj, ok.has, ok.cab, ok.hd, ok.frames, ok.stk, ok.exf, ok.bs, ok.bsz, ok.noex, ok.exfs, ok.funs, ok.frf⟩
section
variable {X : Cx} {pins : List (Addr × Obj)} {σ : St} {H : Hp} {s : Shared} {E : Value -> Shared -> Prop}
theorem Inv.wish (I : Inv X pins σ H s) (E : Value -> Shared -> Prop) : Inv (X.wish E) pins σ H s := ⟨I.ok.wish E, I.os, I.bare, I.base, I.loc, I.cell, I.free, I.freeC, I.pin, I.hok, I.len⟩
theorem Inv.unwish (I : Inv (X.wish E) pins σ H s) : Inv X pins σ H s := ⟨I.ok.unwish, I.os, I.bare, I.base, I.loc, I.cell, I.free, I.freeC, I.pin, I.hok, I.len⟩
theorem SP.unwish {D : Ends} {f : Flow} {s' : Shared} (h : SP (X.wish E) pins D f s') : SP X pins D f s' := by
  cases f with
  | next => obtain ⟨σ', H', I, q⟩ := h; exact ⟨σ', H', I.unwish, q⟩
  | brk => obtain ⟨σ', H', I, q⟩ := h; exact ⟨σ', H', I.unwish, q⟩
  | cont => obtain ⟨σ', H', I, q⟩ := h; exact ⟨σ', H', I.unwish, q⟩
  | ret u => obtain ⟨v, σ', H', I, r, q⟩ := h; exact ⟨v, σ', H', I.unwish, r, q⟩
theorem PSs.nox {st : List Stmt} {t : TS} (h : PSs X.nox st t) : PSs X st t := fun pins s σ H D I hw =>
  wpAny_mono (h pins s σ H D (I.wish _) hw) (fun _ _ q => q.unwish) fun _ _ z => False.elim z
end
section
variable {X : Cx} {st : Stmt} {rest : List Stmt} {t u : TS} {e : Expr} {te : TE} {pos : Pos}
def tNext : TS := fun D σ H => D.nx σ H
def tSeq (t u : TS) : TS := fun D σ H => t { D with nx := u D } σ H
theorem pss_nil : PSs X [] tNext := fun _ _ σ H _ I h => wpAny_execs_nil ⟨σ, H, I, h⟩
theorem pss_cons (h1 : PS X st t) (h2 : PSs X rest u) : PSs X (st :: rest) (tSeq t u) := by
  intro pins s σ H D I h
  refine wpAny_execs_cons (thn (h1 pins s σ H { D with nx := u D } I h) fun f s1 q => ?_)
  cases f with
  | next =>
    obtain ⟨σ', H', I', q⟩ := q
    exact h2 pins s1 σ' H' D I' q
  | ret v => exact q
  | brk => exact q
  | cont => exact q
theorem pss_one (h1 : PS X st t) : PSs X [st] t := by
  intro pins s σ H D I h
  refine wpAny_execs_cons (thn (h1 pins s σ H D I h) fun f s1 q => ?_)
  cases f with
  | next => exact wpAny_execs_nil q
  | ret v => exact q
  | brk => exact q
  | cont => exact q
theorem ps_pass : PS X (.Pass pos) tNext := fun _ _ σ H _ I h => wpAny_Pass ⟨σ, H, I, h⟩
theorem Inv.quiet {pins : List (Addr × Obj)} {σ : St} {H : Hp} {s : Shared} (I : Inv X pins σ H s) : interactive X.env = false := by simp [interactive, I.ok.kind]
def tDrop (te : TE) : TS := fun D σ H => te σ H fun _ H1 => D.nx σ H1
theorem ps_expr (he : PE X e te) (hs : swapsWith e none pos.line X.env = pure false := by rfl) : PS X (.Expr e pos) (tDrop te) := by
  intro pins s σ H D I h
  exact wpAny_Expr_any (thn (he pins s σ H _ I h) fun v s1 ⟨x, H1, I1, r1, q1⟩ => ⟨σ, H1, I1, q1⟩) I.quiet hs
def tRet (te : TE) : TS := fun D σ H => te σ H D.rt
theorem ps_ret (he : PE X e te) : PS X (.Return (some e) pos) (tRet te) := by
  intro pins s σ H D I h
  exact wpAny_Return_some (thn (he pins s σ H _ I h) fun v s1 ⟨x, H1, I1, r1, q1⟩ => ⟨x, σ, H1, I1, r1, q1⟩)
def tIfS (c : TT) (t u : TS) : TS := fun D σ H => c σ H fun b H1 => if b = true then t D σ H1 else u D σ H1
theorem ps_if {c : Expr} {a b : List Stmt} {tc : TT} (hc : PT X c tc) (ha : PSs X a t) (hb : PSs X b u) : PS X (.If c a b pos) (tIfS tc t u) := by
  intro pins s σ H D I h
  refine wpAny_If (thn (hc pins s σ H _ I h) fun d s1 ⟨H1, I1, q1⟩ => ?_)
  cases d with
  | true => exact ha pins s1 σ H1 D I1 q1
  | false => exact hb pins s1 σ H1 D I1 q1
end
abbrev TG := V -> St -> Hp -> (St -> Hp -> Prop) -> Prop
abbrev TGs := List V -> St -> Hp -> (St -> Hp -> Prop) -> Prop
def PG (X : Cx) (target : Expr) (t : TG) : Prop :=
  ∀ (pins : List (Addr × Obj)) (s : Shared) (σ : St) (H : Hp) (v : V) (u : Value) (Q : St -> Hp -> Prop), Inv X pins σ H s -> RelV v u -> t v σ H Q ->
    wpAny (model X.prog X.w) X.A (assign target X.env u) (fun _ s' => ∃ σ' H', Inv X pins σ' H' s' /\ Q σ' H') X.xe s
def PGs (X : Cx) (ts : List Expr) (t : TGs) : Prop :=
  ∀ (pins : List (Addr × Obj)) (s : Shared) (σ : St) (H : Hp) (vs : List V) (us : List Value) (Q : St -> Hp -> Prop), Inv X pins σ H s -> Vals vs us -> t vs σ H Q ->
    wpAny (model X.prog X.w) X.A (assignInOrder ((assignEach ts X.env).map (·.2)) us) (fun _ s' => ∃ σ' H', Inv X pins σ' H' s' /\ Q σ' H') X.xe s
abbrev TSet := V -> V -> V -> Hp -> (Hp -> Prop) -> Prop
def PSet (X : Cx) (t : TSet) : Prop :=
  ∀ (pins : List (Addr × Obj)) (s : Shared) (σ : St) (H : Hp) (o i v : V) (ov iv u : Value) (Q : Hp -> Prop), Inv X pins σ H s -> RelV o ov -> RelV i iv -> RelV v u -> t o i v H Q ->
    wpAny (model X.prog X.w) X.A (setItem ov iv u) (fun _ s' => ∃ H', Inv X pins σ H' s' /\ Q H') X.xe s
section
variable {X : Cx} {pos : Pos}
def gName (i : Nat) : TG := fun v σ H Q => Q (σ.set i (some v)) H
theorem pg_name {i : Nat} {x : Str} (hN : X.N.Nodup) (hi : X.N[i]? = some x) (hx : Loc X.env.scope x) (hf : X.fn x = true \/ X.env.scope.names.lookup x = some .local := by first | exact .inl rfl | exact .inr rfl | assumption) : PG X (.Name x pos) (gName i) := by
  intro pins s σ H v u Q I r h
  exact wpAny_assign_Name (store_ok I hN hi hx r (fun s' I' => ⟨_, H, I', h⟩) hf)
def gNil : TGs := fun vs σ H Q => vs = [] /\ Q σ H
def gCons (t : TG) (u : TGs) : TGs := fun vs σ H Q => ∃ v r, vs = v :: r /\ t v σ H fun σ' H' => u r σ' H' Q
theorem pgs_nil : PGs X [] gNil := by
  intro pins s σ H vs us Q I r h
  obtain ⟨e, h⟩ := h
  subst e
  cases r
  exact assignInOrder_nil ⟨σ, H, I, h⟩
theorem pgs_cons {e : Expr} {es : List Expr} {t : TG} {u : TGs} (h1 : PG X e t) (h2 : PGs X es u)
    (hs : (assignEach (e :: es) X.env).map (·.2) = assign e X.env :: (assignEach es X.env).map (·.2) := by rfl) : PGs X (e :: es) (gCons t u) := by
  intro pins s σ H vs us Q I r h
  obtain ⟨v, vr, e1, h⟩ := h
  subst e1
  cases r with
  | cons r rr =>
    rw [hs]
    refine assignInOrder_cons (thn (h1 pins s σ H _ _ _ I r h) fun _ s1 ⟨σ1, H1, I1, q1⟩ => ?_)
    exact h2 pins s1 σ1 H1 _ _ Q I1 rr q1
def gTup (K : PySem.W.Frag) (n : Nat) (t : TGs) : TG := fun v σ H Q => ∃ a xs, v = .ref a /\ SqT K H a xs /\ xs.length = n /\ t xs σ H Q
theorem pg_tup {es : List Expr} {k : Nat} {t : TGs} {n : Nat} (hc : X.calm = true) (h : PGs X es t)
    (hn : (assignEach es X.env).length = n := by rfl) (hst : (assignEach es X.env).findIdx? (·.1) = none := by rfl) : PG X (.Tuple es k pos) (gTup X.K n t) := by
  intro pins s σ H v u Q I r hw
  obtain ⟨a, xs, e1, hq, hl, hw⟩ := hw
  subst e1
  cases r
  obtain ⟨its, rv, ht, hz⟩ := I.tuple hq
  refine assign_Tuple_tuple (I.ok.hd hc) ht (by simp [hn, <- hl, rv.length]) hst fun h' hx => ?_
  have I1 : Inv X pins σ H { s with heap := h' } := I.kept (t' := s.toks) fun b o e => hx b o (Nat.ne_of_lt (Heap.lt_size e)) e
  exact h pins _ σ H xs _ Q I1 (by simpa using rv) hw
def gSub (to ti : TE) (t : TSet) : TG := fun v σ H Q => to σ H fun o H1 => ti σ H1 fun i H2 => t o i v H2 fun H3 => Q σ H3
theorem pg_sub {o i : Expr} {to ti : TE} {t : TSet} (ho : PE X o to) (hi : PE X i ti) (hs : PSet X t)
    (ha : ∀ v, assign (.Subscript o i pos) X.env v = (do
      let ov <- holding [v] (eval o X.env)
      let iv <- holding [v, ov] (eval i X.env)
      standAt pos
      holding [v, ov, iv] (setItem ov iv v)
      release [v, ov, iv] []) := by intro _; rfl) : PG X (.Subscript o i pos) (gSub to ti t) := by
  intro pins s σ H v u Q I r h
  rw [ha]
  refine wpAny_bind (wpAny_holding (thn (ho pins s σ H _ I h) fun ov s1 ⟨x, H1, I1, r1, q1⟩ => ?_))
  refine wpAny_bind (wpAny_holding (thn (hi pins s1 σ H1 _ I1 q1) fun iv s2 ⟨y, H2, I2, r2, q2⟩ => ?_))
  refine wpAny_bind (wpAny_standAt (wpAny_bind (wpAny_holding (thn (hs pins s2 σ H2 x y v ov iv u _ I2 r1 r2 r q2) fun _ s3 ⟨H3, I3, q3⟩ => ?_))))
  exact wpAny_release ⟨σ, H3, I3, q3⟩
def tAsg (te : TE) (g : TG) : TS := fun D σ H => te σ H fun x H1 => g x σ H1 D.nx
theorem ps_asg {tg e : Expr} {te : TE} {g : TG} (he : PE X e te) (hg : PG X tg g) (hs : swapsWithSole [tg] e pos.line X.env = pure false := by rfl) (hw : swappedStores [tg] e X.env = pure none := by rfl)
    (h1 : (assignEach [tg] X.env).map (·.2) = [assign tg X.env] := by rfl) : PS X (.Assign [tg] e pos) (tAsg te g) := by
  intro pins s σ H D I h
  refine wpAny_Assign_stores (thn (he pins s σ H _ I h) fun v s1 ⟨x, H1, I1, r1, q1⟩ => ?_) hs hw
  rw [h1]
  exact thn (hg pins s1 σ H1 x v _ I1 r1 q1) fun _ s2 q => q
theorem ps_set {i : Nat} {x : Str} {e : Expr} {te : TE} {pos' : Pos} (hN : X.N.Nodup) (hi : X.N[i]? = some x) (hx : Loc X.env.scope x) (he : PE X e te) (hs : swapsWith e (some (.Name x pos')) pos.line X.env = pure false := by rfl) (hf : X.fn x = true \/ X.env.scope.names.lookup x = some .local := by first | exact .inl rfl | exact .inr rfl | assumption) :
    PS X (.Assign [.Name x pos'] e pos) (tAsg te (gName i)) := by
  intro pins s σ H D I h
  refine wpAny_Assign_Name (thn (he pins s σ H _ I h) fun v s1 ⟨y, H1, I1, r1, q1⟩ => ?_) hs
  exact store_ok I1 hN hi hx r1 (fun s2 I2 => ⟨_, H1, I2, q1⟩) hf
end
section
variable {X : Cx} {pos : Pos}
def tWhile (c : TT) (tb : TS) : TS := fun D σ H => ∃ W : Nat -> St -> Hp -> Prop, (∃ m, W m σ H) /\ ∀ m σ H, W m σ H ->
  c σ H fun b H1 => if b = true then ∃ N : St -> Hp -> Prop, (∀ σ' H', N σ' H' -> ∃ m', m' < m /\ W m' σ' H') /\ tb { D with nx := N, ct := N, bk := D.nx } σ H1 else D.nx σ H1
theorem ps_while {c : Expr} {body : List Stmt} {tc : TT} {tb : TS} (hp : PassesOwn (model X.prog X.w) X.A X.env X.xe) (hc : PT X c tc) (hb : PSs X body tb) : PS X (.While c body [] pos) (tWhile tc tb) := by
  intro pins s σ H D I h
  obtain ⟨W, ⟨m0, w0⟩, turn⟩ := h
  refine wpAny_While (codeAny_whileLoop (fun n s' => ∃ σ' H', Inv X pins σ' H' s' /\ W n σ' H') ?_ m0 ⟨σ, H, I, w0⟩)
  rintro n s1 ⟨σ1, H1, I1, w1⟩
  refine wpAny_passesOwn hp (thn (hc pins s1 σ1 H1 _ I1 (turn n σ1 H1 w1)) fun b s2 ⟨H2, I2, q2⟩ => ?_)
  cases b with
  | true =>
    obtain ⟨N, hN, q2⟩ := q2
    rw [if_pos rfl]
    refine wpAny_passesOwn hp (thn (hb pins s2 σ1 H2 _ I2 q2) fun f s3 q3 => ?_)
    cases f with
    | next =>
      obtain ⟨σ3, H3, I3, n3⟩ := q3
      obtain ⟨m', hm, w3⟩ := hN σ3 H3 n3
      exact ⟨m', hm, σ3, H3, I3, w3⟩
    | cont =>
      obtain ⟨σ3, H3, I3, n3⟩ := q3
      obtain ⟨m', hm, w3⟩ := hN σ3 H3 n3
      exact ⟨m', hm, σ3, H3, I3, w3⟩
    | brk => exact q3
    | ret v => exact q3
  | false =>
    rw [if_neg Bool.false_ne_true]
    exact wpAny_execs_nil ⟨σ1, H2, I2, q2⟩
end
structure It where
  go : Nat -> Hp -> Prop
  yld : Nat -> Hp -> V -> Hp -> Prop
  stop : Nat -> Hp -> Prop
def FpOk (X : Cx) (pins : List (Addr × Obj)) (H : Hp) (b : Addr) : Prop :=
  H b = none /\ b ≠ X.env.locals /\ b ∉ X.fs /\ (b ∈ X.ex \/ X.s₀.heap.objs.size <= b) /\ (∀ x c, X.env.cells.lookup x = some c -> c ≠ b) /\ ∀ p ∈ X.pn ++ pins, p.1 ≠ b
theorem Inv.fpOk {X : Cx} {pins : List (Addr × Obj)} {σ : St} {H H' : Hp} {s : Shared} {b : Addr} (I : Inv X pins σ H s) (hb : s.heap.objs.size <= b) (hn : H' b = none) : FpOk X pins H' b := by
  refine ⟨hn, Nat.ne_of_gt (Nat.lt_of_lt_of_le I.lt hb), I.nofs hb, .inr (Nat.le_trans I.sz hb), fun x c e z => ?_, fun p hp z => ?_⟩
  · obtain ⟨v, q⟩ := I.cell x c e
    exact absurd (Nat.lt_of_lt_of_le q.lt (by rw [z]; exact hb)) (Nat.lt_irrefl _)
  · exact absurd (Nat.lt_of_lt_of_le (Heap.lt_size (I.pin p hp).1) (by rw [z]; exact hb)) (Nat.lt_irrefl _)
structure Turn (P : Program) (w : World) (K : PySem.W.Frag) (tg : Expr) (J : It) (fp : List Addr) (it : Addr) (tn : Nat -> Heap -> Prop) : Prop where
  mem : it ∈ fp
  obj : ∀ i h, tn i h -> ∀ b ∈ fp, ∃ o, h.get? b = some o /\ ∀ v, o.data ≠ .cell v
  keep : ∀ i h h', tn i h -> (∀ b ∈ fp, ∀ o, h.get? b = some o -> h'.get? b = some o) -> tn i h'
  item : ∀ (X : Cx), X.prog = P -> X.w = w -> X.K = K -> X.calm = true -> ∀ (i : Nat) (pins : List (Addr × Obj)) (s : Shared) (σ : St) (H : Hp) (E : Value -> Shared -> Prop), Inv X pins σ H s -> (∀ b ∈ fp, FpOk X pins H b) -> tn i s.heap -> J.go i H ->
    wpAny (model P w) X.A (pyNext (.ref it)) (fun r s1 => ∃ u, r = some u /\
      wpAny (model P w) X.A (letOwnedTupleGo tg (.ref it) u) (fun _ s2 => ∃ x H', Inv X pins σ H' s2 /\ RelV x u /\ J.yld i H x H' /\ tn (i + 1) s2.heap /\ ∀ b ∈ fp, H' b = none) E s1) E s
  done : ∀ (X : Cx), X.prog = P -> X.w = w -> X.K = K -> X.calm = true -> ∀ (i : Nat) (pins : List (Addr × Obj)) (s : Shared) (σ : St) (H : Hp) (E : Value -> Shared -> Prop), Inv X pins σ H s -> (∀ b ∈ fp, FpOk X pins H b) -> tn i s.heap -> J.stop i H ->
    wpAny (model P w) X.A (pyNext (.ref it)) (fun r s1 => r = none /\ Inv X pins σ H s1) E s
  self : ∀ (A : Around) (i : Nat) (s : Shared) (Q : Value -> Shared -> Prop) (E : Value -> Shared -> Prop), tn i s.heap -> Q (.ref it) s -> wpAny (model P w) A (pyIter (.ref it)) Q E s
abbrev TI := St -> Hp -> (It -> Hp -> Prop) -> Prop
def PIE (X : Cx) (pins : List (Addr × Obj)) (σ : St) (tg : Expr) (R : It -> Hp -> Prop) (itv : Value) (s2 : Shared) : Prop :=
  ∃ (it : Addr) (fp : List Addr) (tn : Nat -> Heap -> Prop) (J : It) (H' : Hp), itv = .ref it /\ Inv X pins σ H' s2 /\ Turn X.prog X.w X.K tg J fp it tn /\ tn 0 s2.heap /\ (∀ b ∈ fp, FpOk X pins H' b) /\ R J H'
def PI (X : Cx) (tg iter : Expr) (wi : TI) : Prop :=
  ∀ (pins : List (Addr × Obj)) (s : Shared) (σ : St) (H : Hp) (R : It -> Hp -> Prop), Inv X pins σ H s -> wi σ H R ->
    wpAny (model X.prog X.w) X.A (eval iter X.env) (fun v s1 => wpAny (model X.prog X.w) X.A (pyIter v) (PIE X pins σ tg R) X.xe s1) X.xe s
theorem go_of {M : Model} {A : Around} {E : Value -> Shared -> Prop} {s : Shared} {tg : Expr} {it : Addr} {u : Value} {o : Obj} {n : String} {vs : Array Value} {Q : Unit -> Shared -> Prop} (ho : s.heap.get? it = some o) (hc : o.cls = .type n) (hd : o.data = .fields vs)
    (hn : ["enumerate", "zip", "dict_itemiterator", "dict_reverseitemiterator", "odict_iterator", "itertools.zip_longest", "itertools.pairwise"].contains n = false) (hQ : Q () s) : wpAny M A (letOwnedTupleGo tg (.ref it) u) Q E s := by
  unfold letOwnedTupleGo
  cases tg <;> first
    | exact wpAny_pure hQ
    | (cases u <;> first
        | exact wpAny_pure hQ
        | (refine wpAny_bind (wpAny_load ho ?_)
           rw [hc, hd]
           show wpAny M A (if (["enumerate", "zip", "dict_itemiterator", "dict_reverseitemiterator", "odict_iterator", "itertools.zip_longest", "itertools.pairwise"].contains n && vs[0]? == some (rawInt _)) = true then _ else _) Q E s
           rw [if_neg (by intro h; rw [hn, Bool.false_and] at h; cases h)]
           exact wpAny_pure hQ))
def Itl (K : PySem.W.Frag) (a : Addr) : It :=
  ⟨fun i H => ∃ xs x, SqL K H a xs /\ xs[i]? = some x, fun i H x H' => H' = H /\ ∀ xs, SqL K H a xs -> xs[i]? = some x, fun i H => ∃ xs, SqL K H a xs /\ xs.length <= i⟩
def Itt (K : PySem.W.Frag) (a : Addr) : It :=
  ⟨fun i H => ∃ xs x, SqT K H a xs /\ xs[i]? = some x, fun i H x H' => H' = H /\ ∀ xs, SqT K H a xs -> xs[i]? = some x, fun i H => ∃ xs, SqT K H a xs /\ xs.length <= i⟩
def Itr (lo : Int) (n : Nat) : It := ⟨fun i _ => i < n, fun i H x H' => H' = H /\ x = .int (lo + i), fun i _ => n <= i⟩
theorem turn_list {P : Program} {w : World} {K : PySem.W.Frag} {tg : Expr} (a it : Addr) : Turn P w K tg (Itl K a) [it] it (fun i h => h.IsListIter it a i) where
  mem := by simp
  obj := fun i h st b hb => by
    have e : b = it := by simpa using hb
    subst e
    obtain ⟨o, e, c, d⟩ := st
    exact ⟨o, e, fun v z => by rw [d] at z; cases z⟩
  keep := fun i h h' st k => st.at fun o e => k it (by simp) o e
  item := by
    intro X hP hw hK hc i pins s σ H E I hf st hg
    subst hP hw hK
    obtain ⟨xs, x, hq, hx⟩ := hg
    obtain ⟨its, rv, p, hz⟩ := I.list hq
    obtain ⟨u, hu, ru⟩ := rv.get hx
    obtain ⟨f0, f1, f2, f3, f4, f5⟩ := hf it (by simp)
    refine wpAny_pyNext_list_item st p.isList (x := u) (by simpa using hu) fun h' st' sb => ?_
    have I1 : Inv X pins σ H { s with heap := h' } := I.turned (t' := s.toks) (fun b o hb e => (sb.2 b hb).trans e) f0 f1 f3 f4 f5
    obtain ⟨o, e, c, d⟩ := id st'
    exact ⟨u, rfl, go_of (s := { s with heap := h' }) e c d (by decide) ⟨x, H, I1, ru, ⟨rfl, fun ys hy => by rw [I.list_inj hy hq]; exact hx⟩, st', fun b hb => (hf b hb).1⟩⟩
  done := by
    intro X hP hw hK hc i pins s σ H E I hf st hg
    subst hP hw hK
    obtain ⟨xs, hq, hx⟩ := hg
    obtain ⟨its, rv, p, hz⟩ := I.list hq
    obtain ⟨f0, f1, f2, f3, f4, f5⟩ := hf it (by simp)
    have hl := rv.length
    exact wpAny_pyNext_list_end (I.ok.hd hc) st p.isList (by simp; omega) fun h' eb => ⟨rfl, I.turned (t' := s.toks) (fun b o hb e => eb b o hb e) f0 f1 f3 f4 f5⟩
  self := fun _ _ _ _ _ st h => wpAny_pyIter_listiter st h
theorem turn_tuple {P : Program} {w : World} {K : PySem.W.Frag} {tg : Expr} (a it : Addr) : Turn P w K tg (Itt K a) [it] it (fun i h => h.IsTupleIter it a i) where
  mem := by simp
  obj := fun i h st b hb => by
    have e : b = it := by simpa using hb
    subst e
    obtain ⟨o, e, c, d⟩ := st
    exact ⟨o, e, fun v z => by rw [d] at z; cases z⟩
  keep := fun i h h' st k => st.at fun o e => k it (by simp) o e
  item := by
    intro X hP hw hK hc i pins s σ H E I hf st hg
    subst hP hw hK
    obtain ⟨xs, x, hq, hx⟩ := hg
    obtain ⟨its, rv, p, hz⟩ := I.tuple hq
    obtain ⟨u, hu, ru⟩ := rv.get hx
    obtain ⟨f0, f1, f2, f3, f4, f5⟩ := hf it (by simp)
    refine wpAny_pyNext_tuple_item st (show s.heap.IsTuple a its.toArray from p) (x := u) (by simpa using hu) fun h' st' sb => ?_
    have I1 : Inv X pins σ H { s with heap := h' } := I.turned (t' := s.toks) (fun b o hb e => (sb.2 b hb).trans e) f0 f1 f3 f4 f5
    obtain ⟨o, e, c, d⟩ := id st'
    exact ⟨u, rfl, go_of (s := { s with heap := h' }) e c d (by decide) ⟨x, H, I1, ru, ⟨rfl, fun ys hy => by rw [I.tuple_inj hy hq]; exact hx⟩, st', fun b hb => (hf b hb).1⟩⟩
  done := by
    intro X hP hw hK hc i pins s σ H E I hf st hg
    subst hP hw hK
    obtain ⟨xs, hq, hx⟩ := hg
    obtain ⟨its, rv, p, hz⟩ := I.tuple hq
    obtain ⟨f0, f1, f2, f3, f4, f5⟩ := hf it (by simp)
    have hl := rv.length
    exact wpAny_pyNext_tuple_end (I.ok.hd hc) st (show s.heap.IsTuple a its.toArray from p) (by simp; omega) fun h' eb => ⟨rfl, I.turned (t' := s.toks) (fun b o hb e => eb b o hb e) f0 f1 f3 f4 f5⟩
  self := fun _ _ _ _ _ st h => wpAny_pyIter_tupleiter st h
theorem turn_range {P : Program} {w : World} {K : PySem.W.Frag} {tg : Expr} (it : Addr) (lo : Int) (n : Nat) : Turn P w K tg (Itr lo n) [it] it (fun i h => IsRangeIter h it (lo + (i : Nat) * 1) ((n : Int) - (i : Nat)) 1) where
  mem := by simp
  obj := fun i h st b hb => by
    have e : b = it := by simpa using hb
    subst e
    exact ⟨_, st, fun v z => by
      have z' : Data.fields _ = Data.cell v := z
      cases z'⟩
  keep := fun i h h' st k => k it (by simp) _ st
  item := by
    intro X hP hw hK hc i pins s σ H E I hf st hg
    subst hP hw hK
    obtain ⟨f0, f1, f2, f3, f4, f5⟩ := hf it (by simp)
    have W := Walks.range (prog := X.prog) (w := X.w) (I.ok.hd hc) it lo 1 n
    refine W.item i s _ _ hg st fun v h' tk hv st' kk => ?_
    obtain ⟨t, rfl⟩ := hv
    have I1 : Inv X pins σ H { s with heap := h', toks := tk } := I.turned (fun b o hb e => kk b o (by simpa using hb) e) f0 f1 f3 f4 f5
    refine ⟨_, rfl, go_of (s := { s with heap := h', toks := tk }) (n := "range_iterator") st' rfl rfl (by decide) ⟨.int (lo + i), H, I1, ⟨t, ?_⟩, ⟨rfl, rfl⟩, st', fun b hb => (hf b hb).1⟩⟩
    rw [Int.mul_one]
  done := by
    intro X hP hw hK hc i pins s σ H E I hf st hg
    subst hP hw hK
    obtain ⟨f0, f1, f2, f3, f4, f5⟩ := hf it (by simp)
    exact wpAny_pyNext_range_end (I.ok.hd hc) st (by have : n <= i := hg; omega) fun h' eb => ⟨rfl, I.turned (t' := s.toks) (fun b o hb e => eb b o hb e) f0 f1 f3 f4 f5⟩
  self := fun _ _ _ _ _ st h => wpAny_pyIter_rangeiter st h
end L2
namespace L2
open PySem PySem.Spec PyProof.Rows
section
variable {X : Cx} {tg : Expr}
def iList (K : PySem.W.Frag) (tl : TE) : TI := fun σ H R => tl σ H fun x H1 => ∃ a, x = .ref a /\ (∃ xs, SqL K H1 a xs) /\ R (Itl K a) H1
def iTup (K : PySem.W.Frag) (tl : TE) : TI := fun σ H R => tl σ H fun x H1 => ∃ a, x = .ref a /\ (∃ xs, SqT K H1 a xs) /\ R (Itt K a) H1
theorem pi_list {l : Expr} {tl : TE} (hl : PE X l tl) : PI X tg l (iList X.K tl) := by
  intro pins s σ H R I h
  refine thn (hl pins s σ H _ I h) fun v s1 ⟨x, H1, I1, r1, q1⟩ => ?_
  obtain ⟨a, e, ⟨xs, hq⟩, q⟩ := q1
  subst e
  cases r1
  obtain ⟨its, rv, p, hz⟩ := I1.list hq
  refine wpAny_pyIter_list p.isList ?_
  refine ⟨s1.heap.objs.size, [s1.heap.objs.size], _, _, H1, rfl, I1.kept (t' := s1.toks) fun b o e => Heap.get?_push_of_some _ e, turn_list a _, ⟨_, Heap.get?_push_size _ rfl, rfl, rfl⟩, fun b hb => ?_, q⟩
  have e : b = s1.heap.objs.size := by simpa using hb
  subst e
  exact I1.fpOk (Nat.le_refl _) (I1.hok.fresh (Nat.le_refl _))
theorem pi_tup {l : Expr} {tl : TE} (hl : PE X l tl) : PI X tg l (iTup X.K tl) := by
  intro pins s σ H R I h
  refine thn (hl pins s σ H _ I h) fun v s1 ⟨x, H1, I1, r1, q1⟩ => ?_
  obtain ⟨a, e, ⟨xs, hq⟩, q⟩ := q1
  subst e
  cases r1
  obtain ⟨its, rv, p, hz⟩ := I1.tuple hq
  refine wpAny_pyIter_tuple (show s1.heap.IsTuple a its.toArray from p) ?_
  refine ⟨s1.heap.objs.size, [s1.heap.objs.size], _, _, H1, rfl, I1.kept (t' := s1.toks) fun b o e => Heap.get?_push_of_some _ e, turn_tuple a _, ⟨_, Heap.get?_push_size _ rfl, rfl, rfl⟩, fun b hb => ?_, q⟩
  have e : b = s1.heap.objs.size := by simpa using hb
  subst e
  exact I1.fpOk (Nat.le_refl _) (I1.hok.fresh (Nat.le_refl _))
theorem range_it {pins : List (Addr × Obj)} {σ : St} {H : Hp} {s : Shared} {R : It -> Hp -> Prop} {E : Value -> Shared -> Prop} {lo hi : Int} {t u v : Tok} {tk : Nat} (I : Inv X pins σ H s) (h1 : -(2 ^ 62) <= lo) (h2 : lo < 2 ^ 62) (h3 : -(2 ^ 62) <= hi) (h4 : hi < 2 ^ 62)
    (q : R (Itr lo (hi - lo).toNat) H) : wpAny (model X.prog X.w) X.A (pyIter (.ref s.heap.objs.size)) (PIE X pins σ tg R) E { s with heap := s.heap.push { cls := .type "range", data := .fields #[.int lo t, .int hi u, .int 1 v] }, toks := tk } := by
  refine wpAny_pyIter_range (IsRange.new ..) (small_one h1 h2 h3 h4) ?_
  have I1 : Inv X pins σ H { s with heap := s.heap.push { cls := .type "range", data := .fields #[.int lo t, .int hi u, .int 1 v] }, toks := tk } := I.kept fun b o e => Heap.get?_push_of_some _ e
  refine ⟨(s.heap.push { cls := .type "range", data := .fields #[.int lo t, .int hi u, .int 1 v] }).objs.size, [(s.heap.push { cls := .type "range", data := .fields #[.int lo t, .int hi u, .int 1 v] }).objs.size], _, _, H, rfl,
    I1.kept (t' := tk) fun b o e => Heap.get?_push_of_some _ e, turn_range _ lo (hi - lo).toNat, ?_, fun b hb => ?_, q⟩
  · have e1 : lo + ((0 : Nat) : Int) * 1 = lo := by simp
    have e2 : (((hi - lo).toNat : Nat) : Int) - ((0 : Nat) : Int) = Builtin.Range.rangeSize lo hi 1 := by rw [rangeSize_one]; split <;> omega
    show IsRangeIter _ _ (lo + ((0 : Nat) : Int) * 1) ((((hi - lo).toNat : Nat) : Int) - ((0 : Nat) : Int)) 1
    rw [e1, e2]
    exact Heap.get?_push_size _ rfl
  · have e : b = (s.heap.push { cls := .type "range", data := .fields #[.int lo t, .int hi u, .int 1 v] }).objs.size := by simpa using hb
    subst e
    exact I1.fpOk (Nat.le_refl _) (I1.hok.fresh (Nat.le_refl _))
def iRng1 (ta : TA) : TI := fun σ H R => ta σ H fun vs H1 => ∃ j : Int, vs = [.int j] /\ -(2 ^ 62) <= j /\ j < 2 ^ 62 /\ R (Itr 0 j.toNat) H1
theorem pi_range1 {a : Expr} {ta : TA} {p pos : Pos} (hg : Gl X "range") (hm : X.mg "range" = none) (ha : PA X [a] ta) (hs : starEach [a] X.env = [(false, eval a X.env)] := by rfl) : PI X tg (.Call (.Name "range" p) [a] [] pos) (iRng1 ta) := by
  intro pins s σ H R I h
  refine Call_ (ld_blt I hg hm boot_range (PyProof.Rows.callWith_type1 (thn (ha pos pins s σ H _ I h) fun us s1 ⟨vs, H1, I1, r1, q1⟩ => ?_) hs rfl))
  obtain ⟨j, e, q1, q2, q⟩ := q1
  subst e
  cases r1 with
  | cons r rr =>
    cases rr
    obtain ⟨t, rfl⟩ := r
    exact call_range_1 (range_it I1 (by omega) (by omega) q1 q2 (by simpa using q))
def tFor (wi : TI) (g : TG) (tb : TS) : TS := fun D σ H => wi σ H fun J H1 => ∃ W : Nat -> Nat -> St -> Hp -> Prop, (∃ m, W 0 m σ H1) /\ ∀ i m σ H, W i m σ H ->
  (J.stop i H /\ D.nx σ H) \/ (J.go i H /\ ∃ N : St -> Hp -> Prop, (∀ σ' H', N σ' H' -> ∃ m', m' < m /\ W (i + 1) m' σ' H') /\ ∀ x H', J.yld i H x H' -> g x σ H' fun σ2 H2 => tb { D with nx := N, ct := N, bk := D.nx } σ2 H2)
def pinsAt (fp : List Addr) (h : Heap) : List (Addr × Obj) := fp.filterMap fun b => (h.get? b).map fun o => (b, o)
theorem mem_pinsAt {fp : List Addr} {h : Heap} {b : Addr} {o : Obj} (hb : b ∈ fp) (e : h.get? b = some o) : (b, o) ∈ pinsAt fp h := List.mem_filterMap.mpr ⟨b, hb, by rw [e]; rfl⟩
theorem of_pinsAt {fp : List Addr} {h : Heap} {p : Addr × Obj} (hp : p ∈ pinsAt fp h) : p.1 ∈ fp /\ h.get? p.1 = some p.2 := by
  obtain ⟨b, hb, e⟩ := List.mem_filterMap.mp hp
  cases q : h.get? b with
  | none => rw [q] at e; cases e
  | some o =>
    rw [q] at e
    have e' : (b, o) = p := Option.some.inj e
    subst e'
    exact ⟨hb, q⟩
theorem Inv.pinned {pins : List (Addr × Obj)} {σ : St} {H : Hp} {s : Shared} {fp : List Addr} (I : Inv X pins σ H s) (hf : ∀ b ∈ fp, FpOk X pins H b) (ho : ∀ b ∈ fp, ∃ o, s.heap.get? b = some o /\ ∀ v, o.data ≠ .cell v) : Inv X (pins ++ pinsAt fp s.heap) σ H s :=
  I.pins_of fun p hp => (List.mem_append.mp hp).elim (fun z => I.pin p (List.mem_append_right _ z)) fun z => by
    obtain ⟨hb, e⟩ := of_pinsAt z
    obtain ⟨f0, f1, f2, _⟩ := hf p.1 hb
    obtain ⟨o, e', d⟩ := ho p.1 hb
    rw [e] at e'; cases e'
    exact ⟨e, f0, f1, f2, d⟩
theorem Inv.unpinned {pins pl : List (Addr × Obj)} {σ : St} {H : Hp} {s : Shared} (I : Inv X (pins ++ pl) σ H s) : Inv X pins σ H s := I.pins_of fun p hp => I.pin p (List.mem_append_right _ (List.mem_append_left _ hp))
theorem ps_for {iter : Expr} {body : List Stmt} {wi : TI} {g : TG} {tb : TS} {pos : Pos} (hp : PassesOwn (model X.prog X.w) X.A X.env X.xe) (hc : X.calm = true) (hi : PI X tg iter wi) (hg : PG X tg g) (hb : PSs X body tb)
    (hs : ∀ x, foldedSetIterable iter X.env x = pure x := by intro _; rfl) : PS X (.For tg iter body [] pos) (tFor wi g tb) := by
  intro pins s σ H D I h
  refine wpAny_For (thn (hi pins s σ H _ I h) fun v s1 h1 => thn h1 fun itv s2 h2 => ?_) hs
  obtain ⟨it, fp, tn, J, H2, e, I2, T, st2, f2, W, ⟨m0, w0⟩, turn⟩ := h2
  subst e
  -- what stays true of the iterator's objects through the loop
  have stat : ∀ {H' : Hp}, (∀ b ∈ fp, H' b = none) -> ∀ b ∈ fp, FpOk X pins H' b := fun hn b hb => ⟨hn b hb, (f2 b hb).2⟩
  refine codeAny_forLoop_any (fun n s' => ∃ i σ' H', Inv X pins σ' H' s' /\ tn i s'.heap /\ (∀ b ∈ fp, H' b = none) /\ W i n σ' H') ?_ m0 ⟨0, σ, H2, I2, st2, fun b hb => (f2 b hb).1, w0⟩
  rintro n s3 ⟨i, σ3, H3, I3, st3, fr3, w3⟩
  rcases turn i n σ3 H3 w3 with ⟨stop, qn⟩ | ⟨go, N, hN, step⟩
  · refine wpAny_passesOwn hp (thn (T.done X rfl rfl rfl hc i pins s3 σ3 H3 X.xe I3 (stat fr3) st3 stop) fun r s4 ⟨hr, I4⟩ => ?_)
    subst hr
    exact wpAny_execs_nil ⟨σ3, H3, I4, qn⟩
  · refine wpAny_passesOwn hp (thn (T.item X rfl rfl rfl hc i pins s3 σ3 H3 X.xe I3 (stat fr3) st3 go) fun r s4 ⟨u, hr, h4⟩ => ?_)
    subst hr
    refine wpAny_passesOwn hp (thn h4 fun _ s5 ⟨x, H5, I5, r5, y5, st5, fr5⟩ => ?_)
    have I5' := I5.pinned (stat fr5) (T.obj _ _ st5)
    refine wpAny_passesOwn hp (thn (hg _ s5 σ3 H5 x u _ I5' r5 (step x H5 y5)) fun _ s6 ⟨σ6, H6, I6, q6⟩ => ?_)
    refine wpAny_passesOwn hp (thn (hb _ s6 σ6 H6 _ I6 q6) fun f s7 q7 => ?_)
    have again : ∀ {σ7 : St} {H7 : Hp}, Inv X (pins ++ pinsAt fp s5.heap) σ7 H7 s7 -> N σ7 H7 -> ∃ m, m < n /\ ∃ i σ' H', Inv X pins σ' H' s7 /\ tn i s7.heap /\ (∀ b ∈ fp, H' b = none) /\ W i m σ' H' := fun {σ7 H7} I7 n7 => by
      obtain ⟨m', hm, w7⟩ := hN σ7 H7 n7
      refine ⟨m', hm, i + 1, σ7, H7, I7.unpinned, T.keep _ _ _ st5 fun b hb o e => (I7.pin (b, o) (List.mem_append_right _ (List.mem_append_right _ (mem_pinsAt hb e)))).1, fun b hb => ?_, w7⟩
      obtain ⟨o, e, d⟩ := T.obj _ _ st5 b hb
      exact (I7.pin (b, o) (List.mem_append_right _ (List.mem_append_right _ (mem_pinsAt hb e)))).2.1
    cases f with
    | next => obtain ⟨σ7, H7, I7, n7⟩ := q7; exact again I7 n7
    | cont => obtain ⟨σ7, H7, I7, n7⟩ := q7; exact again I7 n7
    | brk => obtain ⟨σ7, H7, I7, q7⟩ := q7; exact ⟨σ7, H7, I7.unpinned, q7⟩
    | ret v => obtain ⟨x7, σ7, H7, I7, r7, q7⟩ := q7; exact ⟨x7, σ7, H7, I7.unpinned, r7, q7⟩
end
theorem for_range {lo : Int} {n : Nat} {g : TG} {tb : TS} {D : Ends} {σ : St} {H : Hp} (Pv : Nat -> St -> Hp -> Prop) (h0 : Pv 0 σ H)
    (hs : ∀ i σ H, i < n -> Pv i σ H -> g (.int (lo + i)) σ H fun σ2 H2 => tb { D with nx := Pv (i + 1), ct := Pv (i + 1), bk := D.nx } σ2 H2) (hd : ∀ σ H, Pv n σ H -> D.nx σ H) :
    ∃ W : Nat -> Nat -> St -> Hp -> Prop, (∃ m, W 0 m σ H) /\ ∀ i m σ H, W i m σ H ->
      ((Itr lo n).stop i H /\ D.nx σ H) \/ ((Itr lo n).go i H /\ ∃ N : St -> Hp -> Prop, (∀ σ' H', N σ' H' -> ∃ m', m' < m /\ W (i + 1) m' σ' H') /\ ∀ x H', (Itr lo n).yld i H x H' -> g x σ H' fun σ2 H2 => tb { D with nx := N, ct := N, bk := D.nx } σ2 H2) := by
  refine ⟨fun i m σ H => m = n - i /\ i <= n /\ Pv i σ H, ⟨n, by simp, Nat.zero_le _, h0⟩, ?_⟩
  rintro i m σ H ⟨rfl, hi, p⟩
  by_cases hlt : i < n
  · refine .inr ⟨hlt, Pv (i + 1), fun σ' H' p' => ⟨n - (i + 1), by omega, rfl, hlt, p'⟩, fun x H' y => ?_⟩
    obtain ⟨e, y⟩ := y
    subst e y
    exact hs i σ _ hlt p
  · have e : i = n := by omega
    subst e
    exact .inl ⟨Nat.le_refl _, hd σ H p⟩
theorem while_by {c : TT} {tb : TS} {D : Ends} {σ : St} {H : Hp} (Pv : St -> Hp -> Prop) (μ : St -> Hp -> Nat) (h0 : Pv σ H)
    (hs : ∀ σ H, Pv σ H -> c σ H fun b H1 => if b = true then tb { D with nx := fun σ' H' => Pv σ' H' /\ μ σ' H' < μ σ H, ct := fun σ' H' => Pv σ' H' /\ μ σ' H' < μ σ H, bk := D.nx } σ H1 else D.nx σ H1)
    (mono : ∀ σ H Q Q', (∀ b H1, Q b H1 -> Q' b H1) -> c σ H Q -> c σ H Q') : tWhile c tb D σ H := by
  refine ⟨fun m σ H => m = μ σ H /\ Pv σ H, ⟨_, rfl, h0⟩, ?_⟩
  rintro m σ H ⟨rfl, p⟩
  refine mono σ H _ _ (fun b H1 q => ?_) (hs σ H p)
  cases b with
  | true => exact ⟨_, fun σ' H' ⟨p', l⟩ => ⟨_, l, rfl, p'⟩, q⟩
  | false => exact q
end L2
namespace L2
open PySem PySem.Spec PyProof.Rows
abbrev R2 := V -> V -> Hp -> VK -> Prop
def OpR (X : Cx) (f : Value -> Value -> Sem Value) (r : R2) : Prop :=
  ∀ (pins : List (Addr × Obj)) (s : Shared) (σ : St) (H : Hp) (x y : V) (v u : Value) (Q : VK), Inv X pins σ H s -> RelV x v -> RelV y u -> r x y H Q ->
    wpAny (model X.prog X.w) X.A (f v u) (EP X pins σ Q) X.xe s
def UnR (X : Cx) (f : Value -> Sem Value) (r : V -> Hp -> VK -> Prop) : Prop :=
  ∀ (pins : List (Addr × Obj)) (s : Shared) (σ : St) (H : Hp) (x : V) (v : Value) (Q : VK), Inv X pins σ H s -> RelV x v -> r x H Q ->
    wpAny (model X.prog X.w) X.A (f v) (EP X pins σ Q) X.xe s
def CallR (X : Cx) (f : Value) (r : List V -> Hp -> VK -> Prop) : Prop :=
  ∀ (pins : List (Addr × Obj)) (s : Shared) (σ : St) (H : Hp) (xs : List V) (us : List Value) (Q : VK), Inv X pins σ H s -> Vals xs us -> r xs H Q ->
    wpAny (model X.prog X.w) X.A (call f us) (EP X pins σ Q) X.xe s
def tOp (r : R2) (ta tb : TE) : TE := fun σ H Q => ta σ H fun x H1 => tb σ H1 fun y H2 => r x y H2 Q
def tUn (r : V -> Hp -> VK -> Prop) (ta : TE) : TE := fun σ H Q => ta σ H fun x H1 => r x H1 Q
def rI (C : Int -> Int -> Prop) (g : Int -> Int -> V) : R2 := fun x y H Q => ∃ i j, x = .int i /\ y = .int j /\ C i j /\ Q (g i j) H
def rI0 (g : Int -> Int -> V) : R2 := fun x y H Q => ∃ i j, x = .int i /\ y = .int j /\ Q (g i j) H
def rU (g : Int -> V) : V -> Hp -> VK -> Prop := fun x H Q => ∃ i, x = .int i /\ Q (g i) H
section
variable {X : Cx} {a b c : Expr} {ta tb tc : TE} {pos : Pos}
theorem binT (ha : PE X a ta) (hb : PE X b tb) {pins : List (Addr × Obj)} {s : Shared} {σ : St} {H : Hp} {R : V -> V -> Hp -> Prop} (I : Inv X pins σ H s)
    (h : ta σ H fun x H1 => tb σ H1 fun y H2 => R x y H2) {Q : Value -> Shared -> Prop} {f : Value -> Value -> Sem Value}
    (hf : ∀ v u s2 x y H2, Inv X pins σ H2 s2 -> RelV x v -> RelV y u -> R x y H2 -> wpAny (model X.prog X.w) X.A (f v u) Q X.xe s2) :
    wpAny (model X.prog X.w) X.A (eval a X.env) (fun v s₁ => wpAny (model X.prog X.w) X.A (eval b X.env) (fun u s₂ => wpAny (model X.prog X.w) X.A (f v u) Q X.xe s₂) X.xe s₁) X.xe s := by
  refine thn (ha pins s σ H _ I h) fun v s1 ⟨x, H1, I1, r1, q1⟩ => ?_
  refine thn (hb pins s1 σ H1 _ I1 q1) fun u s2 ⟨y, H2, I2, r2, q2⟩ => ?_
  exact hf v u s2 x y H2 I2 r1 r2 q2
theorem pe_op {op : Operator} {r : R2} (ho : OpR X (binaryOp op) r) (ha : PE X a ta) (hb : PE X b tb) : PE X (.BinOp a op b pos) (tOp r ta tb) := by
  intro pins s σ H Q I h
  exact wpAny_BinOp (binT ha hb I h fun v u s2 x y H2 I2 rx ry q => ho pins s2 σ H2 x y v u Q I2 rx ry q)
theorem pe_un {op : UnaryOp} {r : V -> Hp -> VK -> Prop} (ho : UnR X (unaryOp op) r) (ha : PE X a ta) : PE X (.UnaryOp op a pos) (tUn r ta) := by
  intro pins s σ H Q I h
  exact UnaryOp_ (thn (ha pins s σ H _ I h) fun v s1 ⟨x, H1, I1, r1, q1⟩ => ho pins s1 σ H1 x v Q I1 r1 q1)
theorem opI {f : Value -> Value -> Sem Value} {C : Int -> Int -> Prop} {g : Int -> Int -> Int}
    (rule : ∀ (i j : Int) (t u : Tok) (s : Shared) (Q : Value -> Shared -> Prop) (E : Value -> Shared -> Prop), C i j -> Q (.int (g i j) s.toks) { s with toks := s.toks + 1 } -> wpAny (model X.prog X.w) X.A (f (.int i t) (.int j u)) Q E s) :
    OpR X f (rI C fun i j => .int (g i j)) := by
  intro pins s σ H x y v u Q I rx ry h
  obtain ⟨i, j, rfl, rfl, hc, q⟩ := h
  obtain ⟨t, rfl⟩ := rx
  obtain ⟨t', rfl⟩ := ry
  exact rule i j t t' s _ _ hc ⟨.int (g i j), H, I.tok _, ⟨_, rfl⟩, q⟩
theorem opI0 {f : Value -> Value -> Sem Value} {g : Int -> Int -> Int}
    (rule : ∀ (i j : Int) (t u : Tok) (s : Shared) (Q : Value -> Shared -> Prop) (E : Value -> Shared -> Prop), Q (.int (g i j) s.toks) { s with toks := s.toks + 1 } -> wpAny (model X.prog X.w) X.A (f (.int i t) (.int j u)) Q E s) :
    OpR X f (rI0 fun i j => .int (g i j)) := by
  intro pins s σ H x y v u Q I rx ry h
  obtain ⟨i, j, rfl, rfl, q⟩ := h
  obtain ⟨t, rfl⟩ := rx
  obtain ⟨t', rfl⟩ := ry
  exact rule i j t t' s _ _ ⟨.int (g i j), H, I.tok _, ⟨_, rfl⟩, q⟩
theorem opB0 {f : Value -> Value -> Sem Value} {g : Int -> Int -> Bool}
    (rule : ∀ (i j : Int) (t u : Tok) (s : Shared) (Q : Value -> Shared -> Prop) (E : Value -> Shared -> Prop), Q (.bool (g i j)) s -> wpAny (model X.prog X.w) X.A (f (.int i t) (.int j u)) Q E s) :
    OpR X f (rI0 fun i j => .bl (g i j)) := by
  intro pins s σ H x y v u Q I rx ry h
  obtain ⟨i, j, rfl, rfl, q⟩ := h
  obtain ⟨t, rfl⟩ := rx
  obtain ⟨t', rfl⟩ := ry
  exact rule i j t t' s _ _ ⟨.bl (g i j), H, I, rfl, q⟩
def CPow (i j : Int) : Prop := 0 <= j /\ j <= 1000000 /\ i.natAbs < 2 ^ 64
theorem op_add : OpR X (binaryOp .Add) (rI0 fun i j => .int (i + j)) := opI0 fun _ _ _ _ _ _ _ q => add_int q
theorem op_sub : OpR X (binaryOp .Sub) (rI0 fun i j => .int (i - j)) := opI0 fun _ _ _ _ _ _ _ q => sub_int q
theorem op_mod : OpR X (binaryOp .Mod) (rI (fun _ j => 0 < j) fun i j => .int (i % j)) := opI fun i j _ _ _ _ _ hc q => by
  have h1 : (0 : Int) < j := hc
  exact mod_int' (by omega) (by rw [Int.fmod_eq_emod_of_nonneg i (by omega)]; exact q)
theorem op_pow : OpR X (binaryOp .Pow) (rI CPow fun i j => .int (i ^ j.toNat)) := opI fun _ _ _ _ _ _ _ hc q => pow_int_small hc.1 hc.2.1 hc.2.2 q
theorem unI {f : Value -> Sem Value} {g : Int -> Int}
    (rule : ∀ (i : Int) (t : Tok) (s : Shared) (Q : Value -> Shared -> Prop) (E : Value -> Shared -> Prop), Q (.int (g i) s.toks) { s with toks := s.toks + 1 } -> wpAny (model X.prog X.w) X.A (f (.int i t)) Q E s) :
    UnR X f (rU fun i => .int (g i)) := by
  intro pins s σ H x v Q I rx h
  obtain ⟨i, rfl, q⟩ := h
  obtain ⟨t, rfl⟩ := rx
  exact rule i t s _ _ ⟨.int (g i), H, I.tok _, ⟨_, rfl⟩, q⟩
theorem un_neg : UnR X (unaryOp .USub) (rU fun i => .int (-i)) := unI fun _ _ _ _ _ q => neg_int q
end
def scal : V -> V -> Bool
  | .non, .non => true | .non, .int _ => true | .int _, .non => true | .non, .bl _ => true | .bl _, .non => true | .non, .str _ => true | .str _, .non => true
  | .int _, .int _ => true | .bl _, .bl _ => true | .str _, .str _ => true | .byt _, .byt _ => true
  | .int _, .str _ => true | .str _, .int _ => true | .bl _, .str _ => true | .str _, .bl _ => true
  | _, _ => false
def rEq : R2 := fun x y H Q => scal x y = true /\ Q (.bl (decide (x = y))) H
def rNe : R2 := fun x y H Q => scal x y = true /\ Q (.bl (!decide (x = y))) H
theorem dec_int {i j : Int} : decide (V.int i = V.int j) = (i == j) := by
  rw [Bool.eq_iff_iff]
  simp
theorem dec_bl {i j : Bool} : decide (V.bl i = V.bl j) = (i == j) := by
  rw [Bool.eq_iff_iff]
  simp
theorem dec_str {i j : Str} : decide (V.str i = V.str j) = (i == j) := by
  rw [Bool.eq_iff_iff]
  simp
theorem dec_byt {i j : Array UInt8} : decide (V.byt i = V.byt j) = (i.toList == j.toList) := by
  rw [Bool.eq_iff_iff]
  cases i
  cases j
  simp
section
variable {X : Cx} {a b c : Expr} {ta tb tc : TE} {pos : Pos}
theorem fin_bl {pins : List (Addr × Obj)} {σ : St} {H : Hp} {s : Shared} {Q : VK} {k k' : Bool} (I : Inv X pins σ H s) (q : Q (.bl k) H) (e : k = k') : EP X pins σ Q (.bool k') s := by
  subst e
  exact ⟨.bl k, H, I, rfl, q⟩
theorem op_eq : OpR X (compareOp .Eq) rEq := by
  intro pins s σ H x y v u Q I rx ry h
  obtain ⟨hs, q⟩ := h
  cases x with
  | non =>
    cases rx
    cases y with
    | non => cases ry; exact PySem.EqNone.eq_none_none (fin_bl I q (by simp))
    | bl j => cases ry; exact PySem.EqNone.eq_none_bool (fin_bl I q (by simp))
    | int j => obtain ⟨t', rfl⟩ := ry; exact PySem.EqNone.eq_none_int (fin_bl I q (by simp))
    | str j => obtain ⟨t', rfl⟩ := ry; exact PySem.EqNone.eq_none_str (fin_bl I q (by simp))
    | _ => exact absurd (show false = true from hs) Bool.false_ne_true
  | bl i =>
    cases rx
    cases y with
    | non => cases ry; exact PySem.EqNone.eq_bool_none (fin_bl I q (by simp))
    | bl j => cases ry; exact eq_bool (fin_bl I q dec_bl)
    | str j => obtain ⟨t', rfl⟩ := ry; exact PySem.EqMixed.eq_bool_str (fin_bl I q (by simp))
    | _ => exact absurd (show false = true from hs) Bool.false_ne_true
  | int i =>
    obtain ⟨t, rfl⟩ := rx
    cases y with
    | non => cases ry; exact PySem.EqNone.eq_int_none (fin_bl I q (by simp))
    | int j => obtain ⟨t', rfl⟩ := ry; exact eq_int (fin_bl I q dec_int)
    | str j => obtain ⟨t', rfl⟩ := ry; exact PySem.EqMixed.eq_int_str (fin_bl I q (by simp))
    | _ => exact absurd (show false = true from hs) Bool.false_ne_true
  | str i =>
    obtain ⟨t, rfl⟩ := rx
    cases y with
    | non => cases ry; exact PySem.EqNone.eq_str_none (fin_bl I q (by simp))
    | bl j => cases ry; exact PySem.EqMixed.eq_str_bool (fin_bl I q (by simp))
    | int j => obtain ⟨t', rfl⟩ := ry; exact PySem.EqMixed.eq_str_int (fin_bl I q (by simp))
    | str j => obtain ⟨t', rfl⟩ := ry; exact eq_str (fin_bl I q dec_str)
    | _ => exact absurd (show false = true from hs) Bool.false_ne_true
  | byt i =>
    obtain ⟨t, rfl⟩ := rx
    cases y with
    | byt j => obtain ⟨t', rfl⟩ := ry; exact PySem.W.eq_bytes (fin_bl I q dec_byt)
    | _ => exact absurd (show false = true from hs) Bool.false_ne_true
  | _ => cases y <;> exact absurd (show false = true from hs) Bool.false_ne_true
theorem op_ne : OpR X (compareOp .NotEq) rNe := by
  intro pins s σ H x y v u Q I rx ry h
  obtain ⟨hs, q⟩ := h
  cases x with
  | non =>
    cases rx
    cases y with
    | non => cases ry; exact PySem.EqNone.ne_none_none (fin_bl I q (by simp))
    | bl j => cases ry; exact PySem.EqNone.ne_none_bool (fin_bl I q (by simp))
    | int j => obtain ⟨t', rfl⟩ := ry; exact PySem.EqNone.ne_none_int (fin_bl I q (by simp))
    | str j => obtain ⟨t', rfl⟩ := ry; exact PySem.EqNone.ne_none_str (fin_bl I q (by simp))
    | _ => exact absurd (show false = true from hs) Bool.false_ne_true
  | bl i =>
    cases rx
    cases y with
    | non => cases ry; exact PySem.EqNone.ne_bool_none (fin_bl I q (by simp))
    | bl j => cases ry; exact ne_bool (fin_bl I q (congrArg not dec_bl))
    | str j => obtain ⟨t', rfl⟩ := ry; exact PySem.EqMixed.ne_bool_str (fin_bl I q (by simp))
    | _ => exact absurd (show false = true from hs) Bool.false_ne_true
  | int i =>
    obtain ⟨t, rfl⟩ := rx
    cases y with
    | non => cases ry; exact PySem.EqNone.ne_int_none (fin_bl I q (by simp))
    | int j => obtain ⟨t', rfl⟩ := ry; exact ne_int (fin_bl I q (congrArg not dec_int))
    | str j => obtain ⟨t', rfl⟩ := ry; exact PySem.EqMixed.ne_int_str (fin_bl I q (by simp))
    | _ => exact absurd (show false = true from hs) Bool.false_ne_true
  | str i =>
    obtain ⟨t, rfl⟩ := rx
    cases y with
    | non => cases ry; exact PySem.EqNone.ne_str_none (fin_bl I q (by simp))
    | bl j => cases ry; exact PySem.EqMixed.ne_str_bool (fin_bl I q (by simp))
    | int j => obtain ⟨t', rfl⟩ := ry; exact PySem.EqMixed.ne_str_int (fin_bl I q (by simp))
    | str j => obtain ⟨t', rfl⟩ := ry; exact ne_str (fin_bl I q (congrArg not dec_str))
    | _ => exact absurd (show false = true from hs) Bool.false_ne_true
  | byt i =>
    obtain ⟨t, rfl⟩ := rx
    cases y with
    | byt j => obtain ⟨t', rfl⟩ := ry; exact PySem.W.ne_bytes (fin_bl I q (congrArg not dec_byt))
    | _ => exact absurd (show false = true from hs) Bool.false_ne_true
  | _ => cases y <;> exact absurd (show false = true from hs) Bool.false_ne_true
theorem op_lt : OpR X (compareOp .Lt) (rI0 fun i j => .bl (decide (i < j))) := opB0 fun _ _ _ _ _ _ _ q => lt_int q
theorem op_le : OpR X (compareOp .LtE) (rI0 fun i j => .bl (decide (i <= j))) := opB0 fun _ _ _ _ _ _ _ q => le_int q
theorem op_gt : OpR X (compareOp .Gt) (rI0 fun i j => .bl (decide (j < i))) := opB0 fun _ _ _ _ _ _ _ q => gt_int q
theorem op_ge : OpR X (compareOp .GtE) (rI0 fun i j => .bl (decide (j <= i))) := opB0 fun _ _ _ _ _ _ _ q => ge_int q
theorem op_isN : OpR X (compareOp .Is) (fun x y H Q => y = .non /\ Q (.bl (decide (x = .non))) H) := by
  intro pins s σ H x y v u Q I rx ry h
  obtain ⟨rfl, q⟩ := h
  cases ry
  refine is_none_gen (fin_bl I q ?_)
  cases x <;> first
    | (cases rx; rfl)
    | (obtain ⟨t, rfl⟩ := rx; rfl)
theorem nomark (b : Expr) {op : CmpOp} (h : op ≠ .In := by decide) (h2 : op ≠ .NotIn := by decide) : behindInMarks op b = false := by
  have e1 : (op == CmpOp.In) = false := by cases op <;> first | rfl | exact absurd rfl h
  have e2 : (op == CmpOp.NotIn) = false := by cases op <;> first | rfl | exact absurd rfl h2
  cases b <;> simp [behindInMarks, e1, e2]
theorem pe_cmpR {op : CmpOp} {r : R2} (ho : OpR X (compareOp op) r) (ha : PE X a ta) (hb : PE X b tb) (hm : behindInMarks op b = false) : PE X (.Compare a [op] [b] pos) (tOp r ta tb) := by
  intro pins s σ H Q I h
  exact wpAny_Compare1 (binT ha hb I h fun v u s2 x y H2 I2 rx ry q => ho pins s2 σ H2 x y v u Q I2 rx ry q) hm
def tTest (t : TE) : TT := fun σ H Q => t σ H fun x H' => ∃ k, x = .bl k /\ Q k H'
theorem pt_cmpR {op : CmpOp} {r : R2} (ho : OpR X (compareOp op) r) (ha : PE X a ta) (hb : PE X b tb) (hm : behindInMarks op b = false) : PT X (.Compare a [op] [b] pos) (tTest (tOp r ta tb)) := by
  intro pins s σ H Q I h
  refine wpAny_isTrue_Compare1 (thn (ha pins s σ H _ I h) fun v s1 ⟨x, H1, I1, r1, q1⟩ => thn (hb pins s1 σ H1 _ I1 q1) fun u s2 ⟨y, H2, I2, r2, q2⟩ =>
    thn (ho pins s2 σ H2 x y v u _ I2 r1 r2 q2) fun c s3 ⟨z, H3, I3, r3, k, e, q3⟩ => ?_) hm
  subst e
  cases r3
  exact wpAny_truthy_bool ⟨H3, I3, q3⟩
def tChain (r r' : R2) (ta tb tc : TE) : TE := fun σ H Q => ta σ H fun x H1 => tb σ H1 fun y H2 => r x y H2 fun z H3 => ∃ k, z = .bl k /\
  (if k = true then tc σ H3 fun w' H4 => r' y w' H4 Q else Q (.bl false) H3)
theorem pe_chain {op op' : CmpOp} {r r' : R2} (ho : OpR X (compareOp op) r) (ho' : OpR X (compareOp op') r') (ha : PE X a ta) (hb : PE X b tb) (hc : PE X c tc)
    (hm : lastMarks [op, op'] [b, c] = false := by with_unfolding_all rfl) : PE X (.Compare a [op, op'] [b, c] pos) (tChain r r' ta tb tc) := by
  intro pins s σ H Q I h
  refine Compare_chain (thn (ha pins s σ H _ I h) fun v s1 ⟨x, H1, I1, r1, q1⟩ => chain_link (thn (hb pins s1 σ H1 _ I1 q1) fun u s2 ⟨y, H2, I2, r2, q2⟩ =>
    thn (ho pins s2 σ H2 x y v u _ I2 r1 r2 q2) fun d s3 ⟨z, H3, I3, r3, k, e, q3⟩ => ?_)) hm
  subst e
  cases r3
  refine wpAny_truthy_bool ?_
  cases k with
  | false => exact ite_ff ⟨.bl false, H3, I3, rfl, q3⟩
  | true => exact ite_tt (chain_last (thn (hc pins s3 σ H3 _ I3 q3) fun w' s4 ⟨z', H4, I4, r4, q4⟩ => ho' pins s4 σ H4 y z' u w' Q I4 r2 r4 q4))
theorem pt_chain {op op' : CmpOp} {r r' : R2} (ho : OpR X (compareOp op) r) (ho' : OpR X (compareOp op') r') (ha : PE X a ta) (hb : PE X b tb) (hc : PE X c tc)
    (hm : lastMarks [op, op'] [b, c] = false := by with_unfolding_all rfl) : PT X (.Compare a [op, op'] [b, c] pos) (tTest (tChain r r' ta tb tc)) := by
  intro pins s σ H Q I h
  refine isTrue_chain (thn (ha pins s σ H _ I h) fun v s1 ⟨x, H1, I1, r1, q1⟩ => test_link (thn (hb pins s1 σ H1 _ I1 q1) fun u s2 ⟨y, H2, I2, r2, q2⟩ =>
    thn (ho pins s2 σ H2 x y v u _ I2 r1 r2 q2) fun d s3 ⟨z, H3, I3, r3, k, e, q3⟩ => ?_)) hm
  subst e
  cases r3
  refine wpAny_truthy_bool ?_
  cases k with
  | false =>
    obtain ⟨k', e', q'⟩ := q3
    cases e'
    exact ite_ff ⟨H3, I3, q'⟩
  | true =>
    refine ite_tt (test_last (thn (hc pins s3 σ H3 _ I3 q3) fun w' s4 ⟨z', H4, I4, r4, q4⟩ => thn (ho' pins s4 σ H4 y z' u w' _ I4 r2 r4 q4) fun d' s5 ⟨z2, H5, I5, r5, k2, e2, q5⟩ => ?_))
    subst e2
    cases r5
    exact wpAny_truthy_bool ⟨H5, I5, q5⟩
theorem line63 : (sizeLine : Nat) < 2 ^ 63 := by rw [sizeLine_eq]; decide
theorem vals1 {x : V} {us : List Value} (r : Vals [x] us) : ∃ u, us = [u] /\ RelV x u := by
  cases r with
  | cons r1 r2 => cases r2; exact ⟨_, rfl, r1⟩
theorem vals2 {x y : V} {us : List Value} (r : Vals [x, y] us) : ∃ u w', us = [u, w'] /\ RelV x u /\ RelV y w' := by
  cases r with
  | cons r1 r2 =>
    cases r2 with
    | cons r3 r4 => cases r4; exact ⟨_, _, rfl, r1, r3⟩
theorem call_abs : CallR X (.builtin "abs") (fun xs H Q => ∃ i, xs = [.int i] /\ Q (.int (if i < 0 then -i else i)) H) := by
  intro pins s σ H xs us Q I r h
  obtain ⟨i, rfl, q⟩ := h
  obtain ⟨u, rfl, t, rfl⟩ := vals1 r
  exact call_abs_int fun u tk => ⟨.int (if i < 0 then -i else i), H, I.tok _, ⟨_, rfl⟩, q⟩
theorem call_max2 (hc : X.calm = true) : CallR X (.builtin "max") (fun xs H Q => ∃ i j, xs = [.int i, .int j] /\ Q (.int (if j > i then j else i)) H) := by
  intro pins s σ H xs us Q I r h
  obtain ⟨i, j, rfl, q⟩ := h
  obtain ⟨u, w', rfl, ⟨t, rfl⟩, ⟨t', rfl⟩⟩ := vals2 r
  refine max_two_ints (I.ok.hd hc) fun h' tk k => ⟨_, H, I.kept k, ?_, q⟩
  by_cases hj : j > i
  · rw [if_pos hj, if_pos hj]; exact ⟨_, rfl⟩
  · rw [if_neg hj, if_neg hj]; exact ⟨_, rfl⟩
theorem call_int1 : CallR X (.type "int") (fun xs H Q => (∃ i, xs = [.int i] /\ Q (.int i) H) \/ ∃ k, xs = [.bl k] /\ Q (.int (if k then 1 else 0)) H) := by
  intro pins s σ H xs us Q I r h
  rcases h with ⟨i, rfl, q⟩ | ⟨k, rfl, q⟩
  · obtain ⟨u, rfl, t, rfl⟩ := vals1 r
    exact call_int_int ⟨.int i, H, I, ⟨_, rfl⟩, q⟩
  · obtain ⟨u, rfl, r1⟩ := vals1 r
    cases r1
    exact call_int_bool ⟨.int (if k then 1 else 0), H, I.tok _, ⟨_, rfl⟩, q⟩
end
end L2
namespace L2
open PySem PySem.Spec PyProof.Rows
structure ObjM (h : Heap) (x dx C : Addr) (mA : Str -> Option Value) : Prop where
  obj : h.get? x = some (PySem.W.instObj C dx)
  ns : h.Ns1 dx mA
  ne : dx ≠ x
theorem lookIn_ns {h : Heap} {dx : Addr} {mA : Str -> Option Value} (n : h.Ns1 dx mA) : ∃ od, h.get? dx = some od /\ ∀ name, PySem.W.lookIn name od = some (mA name) := by
  obtain ⟨o, es, ep, ho, hd, hk, _, hm⟩ := n
  refine ⟨o, ho, fun name => ?_⟩
  have e := hm name
  unfold nsFind findBy at e
  rw [<- Array.find?_toList] at e
  unfold PySem.W.lookIn
  rw [hd]
  dsimp only
  split
  · rename_i y q
    rw [q] at e
    exact congrArg some e
  · rename_i q
    rw [q] at e
    have a : es.toList.any (·.refKey) = false := by
      rw [List.any_eq_false]
      intro y hy
      obtain ⟨z, t, hkey⟩ := hk y (Array.mem_toList_iff.mp hy)
      simp [DictEntry.refKey, hkey]
    have a' : ¬ es.toList.any (·.refKey) = true := by rw [a]; exact Bool.false_ne_true
    rw [if_neg a']
    exact congrArg some e
theorem ObjM.look {h : Heap} {x dx C : Addr} {mA : Str -> Option Value} (I : ObjM h x dx C mA) : ∃ od, PySem.W.InstAt h x (PySem.W.instObj C dx) C (some od) /\ ∀ name, PySem.W.lookIn name od = some (mA name) :=
  let ⟨od, ho, hl⟩ := lookIn_ns I.ns
  ⟨od, ⟨I.obj, rfl, rfl, ho⟩, hl⟩
section
variable {prog : Program} {w : World} {A : Around} {E : Value -> Shared -> Prop} {s : Shared} {K : PySem.W.Frag} {x dx C f : Addr} {mA : Str -> Option Value} {name : Str} {v : Value}
theorem get_map {expr : Bool} {Q : Value -> Shared -> Prop} (X : K.In s.heap) (I : ObjM s.heap x dx C mA) (hg : PySem.W.plainGet K C name = true) (hh : PySem.W.hasDictIn K C = true)
    (ha : PySem.W.findIn K (.ref C) name = some none) (hv : mA name = some v) (hv' : PySem.W.handedIn v = true) (h : Q v { s with toks := s.toks + 1 }) :
    wpAny (model prog w) A (getAttr (.ref x) name expr) Q E s := by
  obtain ⟨od, J, hl⟩ := I.look
  exact PySem.W.get_value X J (PySem.W.plainGet_of hg).1 (PySem.W.findObj_own hh ha rfl (by rw [hl, hv])) hv' h
theorem get_meth {pl : Sem Bool} {Q : Value × List Value -> Shared -> Prop} (X : K.In s.heap) (I : ObjM s.heap x dx C mA) (hg : PySem.W.plainGet K C name = true)
    (hf : PySem.W.findIn K (.ref C) name = some (some (.ref f))) (ht : PySem.W.isFn K (.ref f) = true) (hv : mA name = none) (h : Q (.ref f, [.ref x]) s) :
    wpAny (model prog w) A (getMethod (.ref x) name pl) Q E s := by
  obtain ⟨od, J, hl⟩ := I.look
  exact PySem.W.method_fn X J (PySem.W.plainGet_of hg).1 (PySem.W.plainGet_of hg).2 hf (beq_iff_eq.mp ht) (by show (PySem.W.lookIn name od).map (·.isSome) = some false; rw [hl, hv]; rfl) h
theorem set_map {ns : List Str} {Q : Unit -> Shared -> Prop} (X : K.In s.heap) (I : ObjM s.heap x dx C mA)
    (hs : PySem.W.findIn K (.ref C) "__setattr__" = some (some (.builtin "object.__setattr__"))) (hp : PySem.W.plainOver K C = true) (ht : PySem.W.takerIn K C name = some none) (hh : PySem.W.hasDictIn K C = true)
    (hw : PySem.Within mA ns) (hsz : ns.length <= sizeLine)
    (h : ∀ h', ObjM h' x dx C (fun y => if y = name then some v else mA y) -> Heap.SameBut dx s.heap h' -> Q () { s with heap := h', toks := s.toks + 2 }) :
    wpAny (model prog w) A (setAttr (.ref x) name v) Q E s := by
  obtain ⟨od, J, hl⟩ := I.look
  refine PySem.W.set_plain X J hs (PySem.W.osa_open (s := { s with toks := s.toks + 1 }) (r := none) X J hp ht fun b => ?_)
  obtain ⟨cd, hc, hd'⟩ := PySem.W.any_some hh
  have hx : s.heap.get? x = some ⟨.ref C, some dx, .plain, #[]⟩ := I.obj
  refine wpAny_bind (wpAny_pure (wpAny_bind (wpAny_bind (wpAny_loadPart hx (wpAny_bind (PySem.W.Looks.here (s := { s with toks := s.toks + 1 }) (PySem.W.looks_clsIn X hc) ?_))))))
  rw [hd']
  refine wpAny_pure (a := some dx) (wpAny_bind (wpAny_pure (wpAny_bind ?_)))
  refine wpAny_nsSet1 (s := { s with toks := s.toks + 1 }) I.ns fun h' hn2 hs2 => ?_
  obtain ⟨oD, esD, epD, hoD, hdD, hcD⟩ := hn2.count (PySem.Within.cons name v hw)
  refine wpAny_bind (wpAny_lookBehind hoD (by rw [hdD]; exact pastItsLine_dict (Nat.le_trans hcD (by rw [List.length_cons]; omega))) ?_)
  exact wpAny_pure (h _ ⟨(hs2.2 _ (Ne.symm I.ne)).trans I.obj, hn2, I.ne⟩ hs2)
theorem make_map {R : Result -> Shared -> Prop} {vs : List Value} {kw : List (Str × Value)} (X : K.In s.heap) (hm : PySem.W.makesIn K C = true)
    (hi : PySem.W.findIn K (.ref C) "__init__" = some (some (.ref f))) (hf : PySem.W.typeIn K (.ref f) = some (.type "function"))
    (h : codeAny (model prog w) (A.under (.builtin "type.__call__" ⟨.ref C :: vs, kw⟩)) (.call (.ref f) ⟨.ref (s.heap.objs.size + 1) :: vs, kw⟩) (PySem.W.InitBack (s.heap.objs.size + 1) R)
      { s with heap := (s.heap.push PySem.W.emptyDict).push (PySem.W.instObj C s.heap.objs.size) }) :
    codeAny (model prog w) A (.call (.ref C) ⟨vs, kw⟩) R s := by
  obtain ⟨hh, g, d, t, os⟩ := s
  exact PySem.W.make_core (PySem.W.makes_of X hm) (PySem.W.looks_findIn X hi) (fun self => PySem.W.bind_fn X self hf) (.inl rfl) h
end
def putF (f : Str) (v : V) : List (Str × V) -> List (Str × V)
  | [] => [(f, v)]
  | (g, x) :: r => if g = f then (g, v) :: r else (g, x) :: putF f v r
theorem lookup_putF (f g : Str) (v : V) : ∀ fs : List (Str × V), (putF f v fs).lookup g = if g = f then some v else fs.lookup g
  | [] => by
    show List.lookup g [(f, v)] = _
    by_cases h : g = f
    · have hb : (g == f) = true := beq_iff_eq.mpr h
      simp only [List.lookup, hb, if_pos h]
    · have hb : (g == f) = false := beq_eq_false_iff_ne.mpr h
      simp only [List.lookup, hb, if_neg h]
  | (k, x) :: r => by
    have ih := lookup_putF f g v r
    rw [show putF f v ((k, x) :: r) = (if k = f then (k, v) :: r else (k, x) :: putF f v r) from rfl]
    by_cases hk : k = f
    · rw [if_pos hk]
      by_cases h : g = k
      · have hb : (g == k) = true := beq_iff_eq.mpr h
        simp only [List.lookup, hb, if_pos (h.trans hk)]
      · have hb : (g == k) = false := beq_eq_false_iff_ne.mpr h
        simp only [List.lookup, hb, if_neg (fun e : g = f => h (e.trans hk.symm))]
    · rw [if_neg hk]
      by_cases h : g = k
      · have hb : (g == k) = true := beq_iff_eq.mpr h
        simp only [List.lookup, hb, if_neg (fun e : g = f => hk (h.symm.trans e))]
      · have hb : (g == k) = false := beq_eq_false_iff_ne.mpr h
        simp only [List.lookup, hb]
        exact ih
theorem keys_putF (f : Str) (v : V) : ∀ fs : List (Str × V), f ∈ (putF f v fs).map (·.1) /\ ∀ g, g ∈ fs.map (·.1) -> g ∈ (putF f v fs).map (·.1)
  | [] => ⟨by simp [putF], fun g h => by simp at h⟩
  | (k, x) :: r => by
    obtain ⟨i1, i2⟩ := keys_putF f v r
    rw [show putF f v ((k, x) :: r) = (if k = f then (k, v) :: r else (k, x) :: putF f v r) from rfl]
    by_cases hk : k = f
    · rw [if_pos hk]
      subst hk
      exact ⟨by simp, fun g h => by simpa using h⟩
    · rw [if_neg hk]
      refine ⟨?_, fun g h => ?_⟩
      · rw [List.map_cons]
        exact List.mem_cons_of_mem _ i1
      · rw [List.map_cons] at h ⊢
        rcases List.mem_cons.mp h with e | e
        · exact List.mem_cons.mpr (.inl e)
        · exact List.mem_cons_of_mem _ (i2 g e)
theorem length_putF (f : Str) (v : V) : ∀ fs : List (Str × V), (putF f v fs).length <= fs.length + 1
  | [] => by simp [putF]
  | (k, x) :: r => by
    have ih := length_putF f v r
    rw [show putF f v ((k, x) :: r) = (if k = f then (k, v) :: r else (k, x) :: putF f v r) from rfl]
    by_cases hk : k = f
    · rw [if_pos hk, List.length_cons, List.length_cons]; omega
    · rw [if_neg hk, List.length_cons, List.length_cons]; omega
theorem RelO.some_of {v : V} {o : Option Value} (r : RelO (some v) o) : ∃ u, o = some u /\ RelV v u := by
  cases o with
  | none => exact (show False from r).elim
  | some u => exact ⟨u, rfl, r⟩
theorem RelO.none_of {o : Option Value} (r : RelO none o) : o = none := by
  cases o with
  | none => rfl
  | some u => exact (show False from r).elim
theorem handed_of {v : V} {u : Value} (r : RelV v u) : PySem.W.handedIn u = true := by
  cases v with
  | non => cases (show u = Value.none from r); rfl
  | bl b => cases (show u = Value.bool b from r); rfl
  | int i => obtain ⟨t, e⟩ := (show ∃ t, u = Value.int i t from r); cases e; rfl
  | str x => obtain ⟨t, e⟩ := (show ∃ t, u = Value.str x t from r); cases e; rfl
  | byt b => obtain ⟨t, e⟩ := (show ∃ t, u = Value.bytes b t from r); cases e; rfl
  | flt b => obtain ⟨t, e⟩ := (show ∃ t, u = Value.float b t from r); cases e; rfl
  | ref a => cases (show u = Value.ref a from r); rfl
  | ty n => cases (show u = Value.type n from r); rfl
section
variable {P : Program} {w : World} {H H' : Hp} {h h' : Heap} {a C dx : Addr} {fs fs' : List (Str × V)}
theorem ins_get (hok : HOk P w H h) (e : H a = some (.ins C dx fs)) : ∃ mA, ObjM h a dx C mA /\ (∀ f, RelO (fs.lookup f) (mA f)) /\ PySem.Within mA (fs.map (·.1)) /\ fs.length <= 1000 /\ H dx = some (.own a) := by
  obtain ⟨d, z, ne, ob, mA, n, r, q⟩ := (show ObjOk P w H h a (.ins C dx fs) from hok a _ e)
  exact ⟨mA, ⟨ob, n, ne⟩, r, q, z, d⟩
end
structure Cls (K : PySem.W.Frag) (C : Addr) : Prop where
  pg : PySem.W.plainGet K C Str.empty = true
  hd : PySem.W.hasDictIn K C = true
  po : PySem.W.plainOver K C = true
  sa : PySem.W.findIn K (.ref C) "__setattr__" = some (some (.builtin "object.__setattr__"))
theorem Cls.get {K : PySem.W.Frag} {C : Addr} (c : Cls K C) (f : Str) : PySem.W.plainGet K C f = true := c.pg
def NoAttr (K : PySem.W.Frag) (C : Addr) (f : Str) : Prop := PySem.W.findIn K (.ref C) f = some none
theorem NoAttr.taker {K : PySem.W.Frag} {C : Addr} {f : Str} (n : NoAttr K C f) : PySem.W.takerIn K C f = some none := by
  unfold PySem.W.takerIn
  rw [show PySem.W.findIn K (.ref C) f = some none from n]
  rfl
structure Meth (K : PySem.W.Frag) (C : Addr) (m : Str) (f : Addr) : Prop where
  at_ : PySem.W.findIn K (.ref C) m = some (some (.ref f))
  fn : PySem.W.isFn K (.ref f) = true
  kp : PySem.W.keepIn K (.ref f) = true
section
variable {X : Cx} {pins : List (Addr × Obj)} {σ : St} {H : Hp} {s : Shared} {a C dx : Addr} {fs : List (Str × V)} {f : Str} {v : V} {A : Around} {E : Value -> Shared -> Prop}
theorem getattr_ok {b : Bool} {Q : Value -> Shared -> Prop} (I : Inv X pins σ H s) (e : H a = some (.ins C dx fs)) (c : Cls X.K C) (n : NoAttr X.K C f) (l : fs.lookup f = some v)
    (h : ∀ u s', Inv X pins σ H s' -> RelV v u -> Q u s') : wpAny (model X.prog X.w) A (getAttr (.ref a) f b) Q E s := by
  obtain ⟨mA, O, r, _, _, _⟩ := ins_get I.hok e
  obtain ⟨u, hu, ru⟩ := RelO.some_of (v := v) (o := mA f) (by rw [<- l]; exact r f)
  exact get_map I.kIn O (c.get f) c.hd n hu (handed_of ru) (h u _ (I.tok _) ru)
theorem getmeth_ok {m : Str} {g : Addr} {pl : Sem Bool} {Q : Value × List Value -> Shared -> Prop} (I : Inv X pins σ H s) (e : H a = some (.ins C dx fs)) (c : Cls X.K C) (k : Meth X.K C m g) (l : fs.lookup m = none)
    (h : Q (.ref g, [.ref a]) s) : wpAny (model X.prog X.w) A (getMethod (.ref a) m pl) Q E s := by
  obtain ⟨mA, O, r, _, _, _⟩ := ins_get I.hok e
  have hn : mA m = none := RelO.none_of (by rw [<- l]; exact r m)
  exact get_meth I.kIn O (c.get m) k.at_ k.fn hn h
theorem setattr_ok {y : V} {u : Value} {Q : Unit -> Shared -> Prop} (I : Inv X pins σ H s) (e : H a = some (.ins C dx fs)) (c : Cls X.K C) (n : NoAttr X.K C f) (hl : fs.length < 1000) (ry : RelV y u)
    (h : ∀ s', Inv X pins σ (upd H a (.ins C dx (putF f y fs))) s' -> Q () s') : wpAny (model X.prog X.w) A (setAttr (.ref a) f u) Q E s := by
  obtain ⟨mA, O, r, wi, _, ho⟩ := ins_get I.hok e
  have hz : (fs.map (·.1)).length <= sizeLine := by rw [List.length_map, sizeLine_eq]; omega
  refine set_map I.kIn O c.sa c.po n.taker c.hd wi hz fun h' O' sb => h _ ?_
  have hd : ∃ o, h'.get? dx = some o := let ⟨o, _, _, e', _⟩ := O'.ns; ⟨o, e'⟩
  refine I.write (x := a) (e := dx) (by rw [e]; exact True.intro) (.inr ho) (fun b q hb z => (sb.2 b hb).trans z) hd ?_
  refine ⟨by rw [upd_ne O.ne]; exact ho, ?_, O.ne, O'.obj, _, O'.ns, fun g => ?_, fun g hg => ?_⟩
  · have := length_putF f y fs; omega
  · show RelO ((putF f y fs).lookup g) (if g = f then some u else mA g)
    rw [lookup_putF]
    by_cases q : g = f
    · rw [if_pos q, if_pos q]; exact ry
    · rw [if_neg q, if_neg q]; exact r g
  · by_cases q : g = f
    · rw [q]; exact (keys_putF f y fs).1
    · refine (keys_putF f y fs).2 g (wi g fun z => hg ?_)
      show (if g = f then some u else mA g) = none
      rw [if_neg q]; exact z
theorem Inv.made (I : Inv X pins σ H s) : Inv X pins σ (upd (upd H s.heap.objs.size (.own (s.heap.objs.size + 1))) (s.heap.objs.size + 1) (.ins C s.heap.objs.size []))
    { s with heap := (s.heap.push PySem.W.emptyDict).push (PySem.W.instObj C s.heap.objs.size) } := by
  have e1 : (s.heap.push PySem.W.emptyDict).get? s.heap.objs.size = some PySem.W.emptyDict := Heap.get?_push_size s.heap rfl
  have e2 : ((s.heap.push PySem.W.emptyDict).push (PySem.W.instObj C s.heap.objs.size)).get? (s.heap.objs.size + 1) = some (PySem.W.instObj C s.heap.objs.size) := by
    have := Heap.get?_push_size (s.heap.push PySem.W.emptyDict) (o := PySem.W.instObj C s.heap.objs.size) rfl
    rwa [Heap.size_push] at this
  have e3 : (s.heap.push PySem.W.emptyDict).Ns s.heap.objs.size (fun _ => none) := ⟨PySem.W.emptyDict, #[], _, e1, rfl, (fun e he => absurd he (by simp)), fun _ => rfl⟩
  have I1 := I.laid (a := s.heap.objs.size) (o := .own (s.heap.objs.size + 1)) (h' := s.heap.push PySem.W.emptyDict) (t' := s.toks) (fun b u q => Heap.get?_push_of_some _ q) (Nat.le_refl _) ⟨_, e1⟩
  refine I1.laid (a := s.heap.objs.size + 1) (o := .ins C s.heap.objs.size []) (t' := s.toks) (fun b u q => Heap.get?_push_of_some _ q) (Nat.le_of_eq (Heap.size_push _ _)) ?_
  have ne : s.heap.objs.size ≠ s.heap.objs.size + 1 := Nat.ne_of_lt (Nat.lt_succ_self _)
  refine ⟨by rw [upd_ne ne, upd_same], Nat.zero_le _, ne, e2, fun _ => none, (Heap.Ns1.of_empty e3).at fun o q => Heap.get?_push_of_some _ q, fun _ => True.intro, fun y hy => absurd rfl hy⟩
theorem attr_of {prog : Program} {w : World} {env : Env} {e : Expr} {f : Str} {pos : Pos} {s : Shared} {Q : Value -> Shared -> Prop} (hb : attributeBase e f env (eval e env) = eval e env)
    (h : wpAny (model prog w) A (eval e env) (fun o s₁ => wpAny (model prog w) A (getAttr o f true) Q E s₁) E s) : wpAny (model prog w) A (eval (.Attribute e f pos) env) Q E s :=
  Attribute_any_ h (by rw [arm_eval_Attribute, hb])
end
def tFld (K : PySem.W.Frag) (ta : TE) (f : Str) : TE := fun σ H Q => ta σ H fun x H1 => ∃ a C dx fs v, x = .ref a /\ H1 a = some (.ins C dx fs) /\ Cls K C /\ NoAttr K C f /\ fs.lookup f = some v /\ Q v H1
def sFld (K : PySem.W.Frag) (ta tv : TE) (f : Str) : TS := fun D σ H => tv σ H fun y H1 => ta σ H1 fun x H2 => ∃ a C dx fs, x = .ref a /\ H2 a = some (.ins C dx fs) /\ Cls K C /\ NoAttr K C f /\ fs.length < 1000 /\
  D.nx σ (upd H2 a (.ins C dx (putF f y fs)))
section
variable {X : Cx} {o e value : Expr} {f : Str} {pos pos' tpos : Pos} {ta tv : TE}
theorem pe_fld (he : PE X e ta) (hb : attributeBase e f X.env (eval e X.env) = eval e X.env) : PE X (.Attribute e f pos) (tFld X.K ta f) := by
  intro pins s σ H Q I h
  refine attr_of hb (thn (he pins s σ H _ I h) fun u s1 ⟨x, H1, I1, rx, a, C, dx, fs, v, ex, ea, c, n, l, q⟩ => ?_)
  subst ex
  obtain rfl : u = Value.ref a := rx
  exact getattr_ok I1 ea c n l fun u' s2 I2 ru => ⟨v, H1, I2, ru, q⟩
theorem ps_fld (ha : PE X o ta) (hv : PE X value tv) (hs : swapsWith value (some (.Attribute o f pos')) pos.line X.env = pure false) : PS X (.Assign [.Attribute o f pos'] value pos) (sFld X.K ta tv f) := by
  intro pins s σ H D I h
  refine plainObj_wpAny_Assign_Attribute (thn (hv pins s σ H _ I h) fun u s1 ⟨y, H1, I1, ry, q⟩ => thn (ha pins s1 σ H1 _ I1 q) fun ov s2 ⟨x, H2, I2, rx, a, C, dx, fs, ex, ea, c, n, l, q2⟩ => ?_) hs
  subst ex
  obtain rfl : ov = Value.ref a := rx
  exact setattr_ok I2 ea c n l ry fun s3 I3 => ⟨σ, _, I3, q2⟩
end
section
variable {X : Cx} {pins : List (Addr × Obj)} {σ : St} {H : Hp} {s : Shared} {A : Around} {E : Value -> Shared -> Prop} {Q : Value -> Shared -> Prop} {c : Value} {b : Bool}
inductive TyOf (K : PySem.W.Frag) (H : Hp) : V -> Value -> Prop where
  | non : TyOf K H .non (.type "NoneType")
  | bl (x : Bool) : TyOf K H (.bl x) (.type "bool")
  | int (i : Int) : TyOf K H (.int i) (.type "int")
  | str (x : Str) : TyOf K H (.str x) (.type "str")
  | flt (x : UInt64) : TyOf K H (.flt x) (.type "float")
  | lst {a : Addr} {xs : List V} (e : H a = some (.lst xs)) : TyOf K H (.ref a) (.type "list")
  | frz {a : Addr} {o : Obj} {xs : List V} (e : H a = some (.frz o (.lst xs))) : TyOf K H (.ref a) (.type "list")
  | tup {a : Addr} {xs : List V} (e : H a = some (.tup xs)) : TyOf K H (.ref a) (.type "tuple")
  | dK {a : Addr} {kvs : List (Key × V)} (e : H a = some (.dK kvs)) : TyOf K H (.ref a) (.type "dict")
  | dT {a : Addr} {kvs : List (List Key × V)} (e : H a = some (.dT kvs)) : TyOf K H (.ref a) (.type "dict")
  | ins {a C dx : Addr} {fs : List (Str × V)} (e : H a = some (.ins C dx fs)) (cl : Cls K C) (ha : PySem.W.findIn K (.ref C) "__class__" = some (some (.builtin "object.__class__")))
      (hn : PySem.W.specialIn K (.builtin "object.__class__") "__get__" = some (some (.builtin "getset_descriptor.__get__"))) (htk : PySem.W.takesIn K (.builtin "object.__class__") = some true)
      (hm : PySem.W.mroIn K C (.type "object") = some true) : TyOf K H (.ref a) (.ref C)
theorem isinst_ok {x : V} {u t : Value} (I : Inv X pins σ H s) (rx : RelV x u) (ty : TyOf X.K H x t) (e : PySem.W.kitOne X.K t c = some b) (h : ∀ tk, Q (.bool b) { s with toks := tk }) :
    wpAny (model X.prog X.w) A (call (.builtin "isinstance") [u, c]) Q E s := by
  cases ty with
  | non => cases (show u = Value.none from rx); exact PySem.W.kia_one PySem.W.kitx_none I.kIn True.intro e (fun z => nomatch z) h
  | bl y => cases (show u = Value.bool y from rx); exact PySem.W.kia_one PySem.W.kitx_bool I.kIn True.intro e (fun z => nomatch z) h
  | int i => obtain ⟨t, q⟩ := (show ∃ t, u = Value.int i t from rx); cases q; exact PySem.W.kia_one PySem.W.kitx_int I.kIn True.intro e (fun z => nomatch z) h
  | str y => obtain ⟨t, q⟩ := (show ∃ t, u = Value.str y t from rx); cases q; exact PySem.W.kia_one PySem.W.kitx_str I.kIn True.intro e (fun z => nomatch z) h
  | flt y => obtain ⟨t, q⟩ := (show ∃ t, u = Value.float y t from rx); cases q; exact PySem.W.kia_one PySem.W.kitx_float I.kIn True.intro e (fun z => nomatch z) h
  | @lst a xs ea =>
    cases (show u = Value.ref a from rx)
    obtain ⟨_, _, n, _, h1⟩ := (show ObjOk X.prog X.w H s.heap a (.lst xs) from I.hok a _ ea)
    exact PySem.W.kia_one PySem.W.kitx_list I.kIn ⟨_, h1, rfl⟩ e (fun z => nomatch z) h
  | @frz a ob xs ea =>
    cases (show u = Value.ref a from rx)
    obtain ⟨_, _, _, n, _, h1⟩ := (show ObjOk X.prog X.w H s.heap a (.frz ob (.lst xs)) from I.hok a _ ea)
    exact PySem.W.kia_one PySem.W.kitx_list I.kIn ⟨_, h1, rfl⟩ e (fun z => nomatch z) h
  | @tup a xs ea =>
    cases (show u = Value.ref a from rx)
    obtain ⟨_, _, _, p⟩ := (show ObjOk X.prog X.w H s.heap a (.tup xs) from I.hok a _ ea)
    obtain ⟨o, h1, h2, _⟩ := p
    exact PySem.W.kia_one PySem.W.kitx_tuple I.kIn ⟨o, h1, h2⟩ e (fun z => nomatch z) h
  | @dK a kvs ea =>
    cases (show u = Value.ref a from rx)
    obtain ⟨_, _, vs, _, p⟩ := (show ObjOk X.prog X.w H s.heap a (.dK kvs) from I.hok a _ ea)
    obtain ⟨o, es, ep, h1, h2, _⟩ := p
    exact PySem.W.kia_one PySem.W.kitx_dict I.kIn ⟨o, h1, h2.1⟩ e (fun z => nomatch z) h
  | @dT a kvs ea =>
    cases (show u = Value.ref a from rx)
    obtain ⟨_, _, xs, _, o, es, ep, h1, h2, _⟩ := (show ObjOk X.prog X.w H s.heap a (.dT kvs) from I.hok a _ ea)
    exact PySem.W.kia_one PySem.W.kitx_dict I.kIn ⟨o, h1, h2.1⟩ e (fun z => nomatch z) h
  | @ins a C dx fs ea cl ha hn htk hm =>
    cases (show u = Value.ref a from rx)
    obtain ⟨mA, O, _⟩ := ins_get I.hok ea
    obtain ⟨od, J, _⟩ := O.look
    exact PySem.W.kia_one (PySem.W.kitx_own (cl.get _) cl.hd ha hn htk hm) I.kIn J e (fun z => nomatch z) h
end
end L2
namespace L2
open PySem PySem.Spec PyProof.Rows
structure Room (k : Nat) (A : Around) : Prop where
  hd : A.handled = none
  dp : A.depth + 3 * k + 5 < recursionLimit
  un : A.units + 16 * k + 200 < cLine
theorem Room.mono {j k : Nat} {A : Around} (r : Room k A) (h : j <= k) : Room j A := ⟨r.hd, by have := r.dp; omega, by have := r.un; omega⟩
theorem Room.deeper {k : Nat} {A : Around} (r : Room (k + 1) A) (env : Env) : Room k (A.deeper env) :=
  ⟨r.hd, by have := r.dp; show A.depth + 1 + 3 * k + 5 < _; omega, by have := r.un; show A.units + 3 + 16 * k + 200 < _; omega⟩
theorem make_depth {A : Around} {C : Addr} {us : List Value} {kw : List (Str × Value)} : (A.under (.builtin "type.__call__" ⟨.ref C :: us, kw⟩)).depth = A.depth + 1 := by
  first | rfl | simp [Around.under, Code.weight, Code.isCreation, Code.isGuard, Code.isCaller, Code.frames, Code.isFrame, guardIds]
theorem make_units {A : Around} {C : Addr} {us : List Value} {kw : List (Str × Value)} : (A.under (.builtin "type.__call__" ⟨.ref C :: us, kw⟩)).units = A.units + 1 := by
  first | rfl | simp [Around.under, Code.cUnits, Code.frames, Code.isFrame]
theorem Room.make {k : Nat} {A : Around} (r : Room (k + 1) A) (C : Addr) (us : List Value) (kw : List (Str × Value)) : Room k (A.under (.builtin "type.__call__" ⟨.ref C :: us, kw⟩)) :=
  ⟨r.hd, by have := r.dp; rw [make_depth]; omega, by have := r.un; rw [make_units]; omega⟩
theorem Room.depth {k : Nat} {A : Around} (r : Room k A) : A.depth < recursionLimit := by have := r.dp; omega
theorem Room.units {k : Nat} {A : Around} (r : Room k A) : A.units + 64 < cLine := by have := r.un; omega
def tNil : TA := fun _ H Q => Q [] H
def tCons (ta : TE) (tr : TA) : TA := fun σ H Q => ta σ H fun x H1 => tr σ H1 fun xs H2 => Q (x :: xs) H2
section
variable {X : Cx} {e : Expr} {es : List Expr} {te : TE} {t : TA} {pos : Pos}
theorem pa_nil : PA X [] tNil := fun _ _ _ _ H Q I h => Calls.spliced_nil ⟨[], H, I, .nil, h⟩
theorem pa_cons (ha : PE X e te) (hr : PA X es t) (hs : starEach (e :: es) X.env = (false, eval e X.env) :: starEach es X.env := by rfl) : PA X (e :: es) (tCons te t) := by
  intro pos pins s σ H Q I h
  rw [hs]
  show wpAny _ _ (spliced ((false, eval e X.env) :: backTo pos (starEach es X.env))) _ _ s
  refine Calls.spliced_cons (thn (ha pins s σ H _ I h) fun u s1 ⟨x, H1, I1, r1, q1⟩ => ?_)
  exact thn (hr pos pins s1 σ H1 _ I1 q1) fun us s2 ⟨xs, H2, I2, r2, q2⟩ => ⟨x :: xs, H2, I2, .cons r1 r2, q2⟩
def tTup (t : TA) : TE := fun σ H Q => t σ H fun xs H1 => xs.length <= sizeLine /\ ∀ p, H1 p = none -> Q (.ref p) (upd H1 p (.tup xs))
def tLst (t : TA) : TE := fun σ H Q => t σ H fun xs H1 => xs.length <= sizeLine /\ ∀ p, H1 p = none -> Q (.ref p) (upd H1 p (.lst xs))
theorem pe_tup {x1} (h : PA X es t) : PE X (.Tuple es x1 pos) (tTup t) := by
  intro pins s σ H Q I hq
  refine wpAny_Tuple_spliced (thn (h pos pins s σ H _ I hq) fun us s1 ⟨xs, H1, I1, r, z, q⟩ => ⟨by rw [<- r.length]; exact z, ?_⟩)
  have hf : H1 s1.heap.objs.size = none := I1.hok.fresh (Nat.le_refl _)
  refine ⟨.ref s1.heap.objs.size, upd H1 s1.heap.objs.size (.tup xs), I1.laid (t' := s1.toks) (fun b u e => Heap.get?_push_of_some _ e) (Nat.le_refl _) ?_, rfl, q _ hf⟩
  exact ⟨z, us, r, ⟨_, Heap.get?_push_size _ rfl, rfl, _, rfl⟩⟩
theorem pe_lst (h : PA X es t) : PE X (.List es pos) (tLst t) := by
  intro pins s σ H Q I hq
  refine wpAny_List_spliced (thn (h pos pins s σ H _ I hq) fun us s1 ⟨xs, H1, I1, r, z, q⟩ => ⟨by rw [<- r.length]; exact z, ?_⟩)
  have hf : H1 s1.heap.objs.size = none := I1.hok.fresh (Nat.le_refl _)
  refine ⟨.ref s1.heap.objs.size, upd H1 s1.heap.objs.size (.lst xs), I1.laid (t' := s1.toks) (fun b u e => Heap.get?_push_of_some _ e) (Nat.le_refl _) ?_, rfl, q _ hf⟩
  exact ⟨z, us, 0, r, Heap.get?_push_size _ rfl⟩
end
abbrev Sp := List V -> Hp -> VK -> XK -> Prop
abbrev CXT := List Env -> Hp -> Shared -> XK -> Value -> Shared -> Prop
structure Env0 (P : Program) (w : World) (K : PySem.W.Frag) (mg : Str -> Option Value) (base : Heap) (A : Around) (outer : List Env) (s : Shared) (H : Hp) : Prop where
  frames : A.frames = some outer
  mod : Mod K mg base
  bs : ∀ b o, base.get? b = some o -> s.heap.get? b = some o /\ H b = none
  bsz : base.objs.size <= s.heap.objs.size
  funs : s.heap.FunFrames base outer
  frf : ∀ b ∈ frs outer, H b = none
  hok : HOk P w H s.heap
  bare : AllBare s.gens
def CE (outer : List Env) (P : Program) (w : World) (H : Hp) (s : Shared) (Q : VK) (u : Value) (s' : Shared) : Prop :=
  ∃ v H', s'.os = s.os /\ AllBare s'.gens /\ Un (frs outer) [] H H' s.heap s'.heap /\ HOk P w H' s'.heap /\ RelV v u /\ Q v H'
def CR (CX : CXT) (outer : List Env) (P : Program) (w : World) (H : Hp) (s : Shared) (Q : VK) (E : XK) (r : Result) (s' : Shared) : Prop :=
  match r with
  | .ok (.ret u) => CE outer P w H s Q u s'
  | .ok _ => False
  | .error e => CX outer H s E e s'
structure FnOk (P : Program) (w : World) (K : PySem.W.Frag) (mg : Str -> Option Value) (base : Heap) (CX : CXT) (k : Nat) (f : Addr) (fd : FuncData) (ps : List Str) (sp : Sp) : Prop where
  len : ∀ vs H Q E, sp vs H Q E -> vs.length = ps.length
  run : ∀ (A : Around) (outer : List Env) (s : Shared) (H : Hp) (args : Args) (us : List Value) (vs : List V) (Q : VK) (E : XK), Room k A -> Env0 P w K mg base A outer s H -> BindsTo s fd args (ps.zip us) -> Vals vs us -> sp vs H Q E ->
    codeAny (model P w) A (.call (.ref f) args) (CR CX outer P w H s Q E) s
theorem FnOk.mono {P : Program} {w : World} {K : PySem.W.Frag} {mg : Str -> Option Value} {base : Heap} {CX : CXT} {j k : Nat} {f : Addr} {fd : FuncData} {ps : List Str} {sp : Sp} (F : FnOk P w K mg base CX j f fd ps sp) (h : j <= k) :
    FnOk P w K mg base CX k f fd ps sp := ⟨F.len, fun A outer s H args us vs Q E hr => F.run A outer s H args us vs Q E (hr.mono h)⟩
theorem FnOk.imp {P : Program} {w : World} {K : PySem.W.Frag} {mg : Str -> Option Value} {base : Heap} {CX : CXT} {k : Nat} {f : Addr} {fd : FuncData} {ps : List Str} {sp sp' : Sp} (F : FnOk P w K mg base CX k f fd ps sp)
    (h : ∀ vs H Q E, sp' vs H Q E -> sp vs H Q E) : FnOk P w K mg base CX k f fd ps sp' :=
  ⟨fun vs H Q E q => F.len vs H Q E (h _ _ _ _ q), fun A outer s H args us vs Q E hr he hb hv hs => F.run A outer s H args us vs Q E hr he hb hv (h _ _ _ _ hs)⟩
theorem Env0.make {P : Program} {w : World} {K : PySem.W.Frag} {mg : Str -> Option Value} {base : Heap} {A : Around} {outer : List Env} {s : Shared} {H : Hp} (e : Env0 P w K mg base A outer s H) (C : Addr) (us : List Value) (kw : List (Str × Value)) :
    Env0 P w K mg base (A.under (.builtin "type.__call__" ⟨.ref C :: us, kw⟩)) outer s H := ⟨by first | exact e.frames | (simpa [Around.under, Code.envs, Code.isFrame, pushEnvs] using e.frames), e.mod, e.bs, e.bsz, e.funs, e.frf, e.hok, e.bare⟩
section
variable {X : Cx} {pins : List (Addr × Obj)} {σ : St} {H : Hp} {s s' : Shared}
theorem Inv.env0 (I : Inv X pins σ H s) : Env0 X.prog X.w X.K X.mg X.base X.A X.stack s H :=
  ⟨I.ok.frames, I.ok.mod, I.bs, Nat.le_trans I.ok.bsz I.sz, I.stack, I.stkFree, I.hok, I.bare⟩
theorem Inv.after {Q : VK} {u : Value} (I : Inv X pins σ H s) (h : CE X.stack X.prog X.w H s Q u s') : EP X pins σ Q u s' := by
  obtain ⟨v, H', os, bare, un, hok, r, q⟩ := h
  obtain ⟨hh, g, d, t, os'⟩ := s'
  obtain rfl : os' = s.os := os
  exact ⟨v, H', I.call (h' := hh) (g' := g) (d' := d) (t' := t) (ch := []) un hok bare (fun b z => absurd z (by simp)), r, q⟩
end
def tCall (sp : Sp) (dvs : List V) (E : XK) (t : TA) : TE := fun σ H Q => t σ H fun vs H1 => sp (vs ++ dvs) H1 Q E
def Binds (K : PySem.W.Frag) (fd : FuncData) (ps : List Str) (ds : List Value) : Prop :=
  ∀ (s : Shared) (us : List Value), K.In s.heap -> (us ++ ds).length = ps.length -> BindsTo s fd ⟨us, []⟩ (ps.zip (us ++ ds))
theorem Binds.all {K : PySem.W.Frag} {fd : FuncData} {ps : List Str} (h : ∀ us : List Value, us.length = ps.length -> bindArgs fd ⟨us, []⟩ = pure (ps.zip us)) : Binds K fd ps [] := fun s us _ hl => by
  rw [List.append_nil] at hl ⊢
  exact .of_eq (h us hl)
def Passes (CX : CXT) (X : Cx) (E : XK) : Prop := ∀ (pins : List (Addr × Obj)) (σ : St) (H : Hp) (s : Shared) (e : Value) (s' : Shared), Inv X pins σ H s -> CX X.stack H s E e s' -> X.xe e s'
section
variable {X : Cx} {CX : CXT} {k : Nat} {f C : Addr} {fd : FuncData} {ps : List Str} {sp : Sp} {dvs : List V} {ds : List Value} {E : XK} {x m : Str} {p pos apos : Pos} {e o : Expr} {es : List Expr} {ta : TE} {t : TA}
theorem run_fn {pins : List (Addr × Obj)} {σ : St} {H : Hp} {s : Shared} {Q : VK} {us : List Value} {vs : List V} (F : FnOk X.prog X.w X.K X.mg X.base CX k f fd ps sp) (hr : Room k X.A) (hb : Binds X.K fd ps ds) (hd : Vals dvs ds) (hx : Passes CX X E)
    (I : Inv X pins σ H s) (r : Vals vs us) (h : sp (vs ++ dvs) H Q E) : wpAny (model X.prog X.w) X.A (call (.ref f) us) (EP X pins σ Q) X.xe s := by
  have r2 : Vals (vs ++ dvs) (us ++ ds) := r.append hd
  have hl : (us ++ ds).length = ps.length := by rw [<- r2.length]; exact F.len _ _ _ _ h
  refine wpAny_call (codeAny_mono (F.run X.A X.stack s H ⟨us, []⟩ (us ++ ds) (vs ++ dvs) Q E hr I.env0 (hb s us I.kIn hl) r2 h) fun r s' hq => ?_)
  cases r with
  | error e => exact hx pins σ H s e s' I hq
  | ok fl =>
    cases fl with
    | ret u => exact I.after hq
    | next => exact False.elim hq
    | brk => exact False.elim hq
    | cont => exact False.elim hq
theorem pe_call (F : FnOk X.prog X.w X.K X.mg X.base CX k f fd ps sp) (hr : Room k X.A) (hg : Gl X x) (hm : X.mg x = some (.ref f)) (hk : PySem.W.keepIn X.K (.ref f) = true) (hb : Binds X.K fd ps ds) (hd : Vals dvs ds) (hx : Passes CX X E)
    (ha : PA X (e :: es) t) (hdb : (x == ("__debug__" : Str)) = false := by decide) (he : starEach (e :: es) X.env = (false, eval e X.env) :: starEach es X.env := by rfl) (hpl : (backTo pos (starEach es X.env)).any (·.1) = false := by rfl) :
    PE X (.Call (.Name x p) (e :: es) [] pos) (tCall sp dvs E t) := by
  intro pins s σ H Q I h
  refine wpAny_Call_Name_kw (ld_glob I hg hm ?_ hdb)
  refine PySem.W.callWith_K (h₀ := X.base) I.ok.mod.kin hk (thn (ha pos pins s σ H _ I h) fun us s1 ⟨vs, H1, I1, r, q⟩ => ⟨I1.kIn, ?_⟩) he hpl
  exact run_fn F hr hb hd hx I1 r q
structure Mk (K : PySem.W.Frag) (C f : Addr) : Prop where
  makes : PySem.W.makesIn K C = true
  init : PySem.W.findIn K (.ref C) "__init__" = some (some (.ref f))
  fn : PySem.W.isFn K (.ref f) = true
  kp : PySem.W.keepIn K (.ref C) = true
end
def PK (X : Cx) (kws : List Keyword) (t : TA) : Prop :=
  ∀ (pos : Pos) (pins : List (Addr × Obj)) (s : Shared) (σ : St) (H : Hp) (Q : List V -> Hp -> Prop), Inv X pins σ H s -> t σ H Q -> wpAny (model X.prog X.w) X.A (evalAll ((backToKw pos (keywordEach kws X.env)).map (·.2))) (AP X pins σ Q) X.xe s
section
variable {X : Cx} {CX : CXT} {k : Nat} {f C : Addr} {fd : FuncData} {ps ks : List Str} {sp : Sp} {E : XK} {x m : Str} {p pos apos kpos : Pos} {e o : Expr} {es : List Expr} {kws : List Keyword} {te ta : TE} {t tk : TA} {nm : Option Str}
theorem pk_nil : PK X [] tNil := fun _ _ _ _ H Q I h => wpAny_evalAll_nil ⟨[], H, I, .nil, h⟩
theorem pk_cons (ha : PE X e te) (hr : PK X kws t) : PK X (⟨nm, e, kpos⟩ :: kws) (tCons te t) := by
  intro pos pins s σ H Q I h
  show wpAny _ _ (evalAll ((do let v <- eval e X.env; standAt pos; pure v) :: (backToKw pos (keywordEach kws X.env)).map (·.2))) _ _ s
  refine wpAny_evalAll_cons (wpAny_bind (thn (ha pins s σ H _ I h) fun u s1 ⟨x, H1, I1, r1, q1⟩ => wpAny_bind (wpAny_standAt (wpAny_pure ?_))))
  exact thn (hr pos pins s1 σ H1 _ I1 q1) fun us s2 ⟨xs, H2, I2, r2, q2⟩ => ⟨x :: xs, H2, I2, .cons r1 r2, q2⟩
variable {g : List Value -> List Value -> List Value} {gV : List V -> List V -> List V}
end
structure FnScope (N P : List Str) (sc : Scope) : Prop where
  kind : sc.kind = .function
  co : sc.isCoroutine = false
  gen : sc.isGenerator = false
  nd : N.Nodup
  pre : N.take P.length = P
  par : ∀ x ∈ P, sc.names.lookup x = some .local \/ sc.names.lookup x = some .cell
  nofree : ∀ y ∈ sc.names, y.2 ≠ .free
theorem bindL_out {kindOf : Str -> Option NameKind} {x : Str} : ∀ {binds : List (Str × Value)} {m : Str -> Option Value}, (∀ v, (x, v) ∉ binds) -> bindL kindOf binds m x = m x
  | [], _, _ => rfl
  | (n, v) :: r, m, h => by
    unfold bindL
    rw [bindL_out fun w hw => h w (List.mem_cons_of_mem _ hw)]
    split
    · have : x ≠ n := by rintro rfl; exact h v List.mem_cons_self
      simp [this]
    · rfl
theorem bindC_out {kindOf : Str -> Option NameKind} {x : Str} : ∀ {binds : List (Str × Value)} {m : Str -> Option Value}, (∀ v, (x, v) ∉ binds) -> bindC kindOf binds m x = m x
  | [], _, _ => rfl
  | (n, v) :: r, m, h => by
    unfold bindC
    rw [bindC_out fun w hw => h w (List.mem_cons_of_mem _ hw)]
    split
    · rfl
    · have : x ≠ n := by rintro rfl; exact h v List.mem_cons_self
      simp [this]
theorem bindL_get {kindOf : Str -> Option NameKind} {x : Str} {v : Value} : ∀ {P : List Str} {vs : List Value} {i : Nat} {m : Str -> Option Value}, P.Nodup -> P[i]? = some x -> vs[i]? = some v -> kindOf x = some .local ->
    bindL kindOf (P.zip vs) m x = some v
  | [], _, _, _, _, h, _, _ => by simp at h
  | _ :: _, [], _, _, _, _, h, _ => by simp at h
  | p :: P, w :: vs, 0, m, nd, h1, h2, hk => by
    simp at h1 h2; subst h1; subst h2
    show bindL kindOf ((p, w) :: P.zip vs) m p = _
    unfold bindL
    rw [bindL_out fun v hv => (List.nodup_cons.mp nd).1 (List.of_mem_zip hv).1, if_pos hk]
    simp
  | p :: P, w :: vs, i + 1, m, nd, h1, h2, hk => by
    show bindL kindOf ((p, w) :: P.zip vs) m x = _
    unfold bindL
    exact bindL_get (i := i) (List.nodup_cons.mp nd).2 (by simpa using h1) (by simpa using h2) hk
theorem bindC_get {kindOf : Str -> Option NameKind} {x : Str} {v : Value} : ∀ {P : List Str} {vs : List Value} {i : Nat} {m : Str -> Option Value}, P.Nodup -> P[i]? = some x -> vs[i]? = some v -> kindOf x ≠ some .local ->
    bindC kindOf (P.zip vs) m x = some v
  | [], _, _, _, _, h, _, _ => by simp at h
  | _ :: _, [], _, _, _, _, h, _ => by simp at h
  | p :: P, w :: vs, 0, m, nd, h1, h2, hk => by
    simp at h1 h2; subst h1; subst h2
    show bindC kindOf ((p, w) :: P.zip vs) m p = _
    unfold bindC
    rw [bindC_out fun v hv => (List.nodup_cons.mp nd).1 (List.of_mem_zip hv).1, if_neg hk]
    simp
  | p :: P, w :: vs, i + 1, m, nd, h1, h2, hk => by
    show bindC kindOf ((p, w) :: P.zip vs) m x = _
    unfold bindC
    exact bindC_get (i := i) (List.nodup_cons.mp nd).2 (by simpa using h1) (by simpa using h2) hk
def start (N : List Str) (vs : List V) : St := vs.map some ++ List.replicate (N.length - vs.length) none
def cxOf (CX : CXT) (P : Program) (w : World) (K : PySem.W.Frag) (mg : Str -> Option Value) (base : Heap) (N : List Str) (qual : Str) (scope : Scope) (f : Addr) (cd : Value) (A : Around) (outer : List Env) (s : Shared) (H : Hp) (E : XK) : Cx where
  prog := P
  w := w
  K := K
  mg := mg
  base := base
  A := A.deeper (envOfC qual scope s.heap.objs.size f cd)
  N := N
  s₀ := s
  H₀ := H
  env := envOfC qual scope s.heap.objs.size f cd
  outer := outer
  stack := envOfC qual scope s.heap.objs.size f cd :: outer
  ex := []
  calm := true
  fn := fun _ => true
  pn := []
  xe := fun e s' => wpAny (model P w) (A.deeper (envOfC qual scope s.heap.objs.size f cd)) («leaving» (envOfC qual scope s.heap.objs.size f cd) e) (fun _ s'' => CX outer H s E e s'') (fun e' s'' => CX outer H s E e' s'') s'
theorem cell_has {sc : Scope} {n : Nat} {x : Str} (h : sc.names.lookup x = some .cell) : ∃ c, (cellsFrom n sc.names []).lookup x = some c := by
  have q := PySem.W.cellsFrom_some sc.names n [] (.inl h)
  exact Option.isSome_iff_exists.mp q
theorem inv_start {CX : CXT} {P : Program} {w : World} {K : PySem.W.Frag} {mg : Str -> Option Value} {base : Heap} {N ps : List Str} {qual : Str} {scope : Scope} {f : Addr} {cd : Value} {A : Around} {outer : List Env} {s s1 : Shared} {H : Hp} {E : XK} {us : List Value} {vs : List V}
    (S : FnScope N ps scope) (hd : A.handled = none) (e0 : Env0 P w K mg base A outer s H) (hl : vs.length = ps.length) (r : Vals vs us)
    (x : InCallC s s.heap.objs.size (bindL (envOfC qual scope s.heap.objs.size f cd).kindOf (ps.zip us) fun _ => none) (cellsFrom (s.heap.objs.size + 1) scope.names []) (bindC (envOfC qual scope s.heap.objs.size f cd).kindOf (ps.zip us) fun _ => none) s1) :
    Inv (cxOf CX P w K mg base N qual scope f cd A outer s H E) [] (start N vs) H s1 := by
  have hpl : ps.length <= N.length := by have := congrArg List.length S.pre; rw [List.length_take] at this; omega
  obtain ⟨h1, tk, rfl, hk⟩ := x.done
  have noA : ∀ b : Addr, b ∉ (cxOf CX P w K mg base N qual scope f cd A outer s H E).ex := fun b z => absurd (show b ∈ ([] : List Addr) from z) (by simp)
  refine ⟨⟨e0.mod, S.kind, rfl, rfl, Nat.le_refl _, fun y z c h1 h2 => ?_, fun y hy => ?_, fun y c _ h => ?_, fun _ => hd, Around.frames_deeper e0.frames, .inr ⟨rfl, rfl⟩, fun b z => absurd z (noA b), e0.bs, e0.bsz, fun b _ _ => noA b, fun b z => absurd z (noA b), e0.funs, e0.frf⟩,
    rfl, e0.bare, Un.kept hk, ⟨_, x.toInCall.ns, fun i y v h1 h2 h3 => ?_⟩, fun y c h => ⟨_, x.cell y c h⟩, e0.hok.fresh (Nat.le_refl _), fun y c h => ?_, fun p hp => absurd (show p ∈ ([] : List (Addr × Obj)) from hp) (by simp), e0.hok.kept hk, ?_⟩
  · exact name_of_addr x.apart (PySem.mem_of_lookup h1) (PySem.mem_of_lookup h2)
  · have hy : scope.names.lookup y = some .cell \/ scope.names.lookup y = some .free := hy
    rcases hy with hy | hy
    · exact cell_has hy
    · exact absurd rfl (S.nofree _ (PySem.mem_of_lookup hy))
  · exact Nat.le_of_lt (x.above y c (PySem.mem_of_lookup h))
  · have hi : i < vs.length := by
      unfold start at h2
      by_cases hi : i < vs.length
      · exact hi
      · rw [List.getElem?_append_right (by simpa using hi)] at h2
        rw [List.getElem?_replicate] at h2
        split at h2 <;> cases h2
    have ha : vs[i]? = some v := by
      unfold start at h2
      rw [List.getElem?_append_left (by simpa using hi), List.getElem?_map] at h2
      cases e : vs[i]? with
      | none => rw [e] at h2; cases h2
      | some a => rw [e] at h2; cases h2; rfl
    obtain ⟨u, hu, rv⟩ := r.get ha
    have hp : ps[i]? = some y := by
      rw [<- S.pre, List.getElem?_take_of_lt (by omega)]; exact h1
    have ndP : ps.Nodup := by rw [<- S.pre]; exact S.nd.sublist (List.take_sublist _ _)
    refine ⟨u, rv, ?_⟩
    rcases S.par y (List.mem_of_getElem? hp) with k | k
    · exact .inl ⟨k, bindL_get ndP hp hu k⟩
    · obtain ⟨c, e⟩ := cell_has (n := s.heap.objs.size + 1) k
      refine .inr ⟨.inl k, c, e, ?_⟩
      have q := x.cell y c e
      rw [bindC_get ndP hp hu (by show scope.names.lookup y ≠ _; rw [k]; decide)] at q
      exact q
  · exact e0.hok.fresh (Nat.le_of_lt (x.above y c (PySem.mem_of_lookup h)))
  · unfold start
    show _ = N.length
    rw [List.length_append, List.length_map, List.length_replicate]
    omega
theorem fn_of {CX : CXT} {P : Program} {w : World} {K : PySem.W.Frag} {mg : Str -> Option Value} {base : Heap} {k : Nat} {f : Addr} {name qual : Str} {params : Arguments} {body : List Stmt} {scope : Scope} {dV kV doc pm cdv ct oc : Value} {an od : Option Addr}
    {osl : Array (Option Value)} {N ps : List Str} {sp : Sp} (lk : K.lookup f = some ⟨oc, od, .func (PySem.W.fnOf name qual params body scope dV kV doc pm an cdv ct), osl⟩) (hcd : PySem.W.codeIn K cdv qual = true) (S : FnScope N ps scope)
    (len : ∀ vs H Q E, sp vs H Q E -> vs.length = ps.length)
    (hbody : ∀ (A : Around) (outer : List Env) (s : Shared) (H : Hp) (vs : List V) (Q : VK) (E : XK), Room k (A.deeper (envOfC qual scope s.heap.objs.size f cdv)) -> sp vs H Q E ->
      ∃ t, PSs (cxOf CX P w K mg base N qual scope f cdv A outer s H E) body t /\ t { nx := fun _ H' => Q .non H', rt := Q } (start N vs) H) :
    FnOk P w K mg base CX (k + 1) f (PySem.W.fnOf name qual params body scope dV kV doc pm an cdv ct) ps sp := by
  refine ⟨len, fun A outer s H args us vs Q E hr e0 hb r hsp => ?_⟩
  have hl := len _ _ _ _ hsp
  have KX : K.In s.heap := e0.mod.kin.keeps fun b o e => (e0.bs b o e).1
  have lim : s.heap.NoLimit := e0.mod.nolimit.keeps fun b o e => (e0.bs b o e).1
  have hkind : ∀ y ∈ ps.zip us, scope.names.lookup y.1 = some .local \/ (scope.names.lookup y.1 = some .cell /\ ((cellsFrom (s.heap.objs.size + 1) scope.names []).lookup y.1).isSome = true) := fun ⟨n, v⟩ hy => by
    rcases S.par n (List.of_mem_zip hy).1 with q | q
    · exact .inl q
    · exact .inr ⟨q, PySem.W.cellsFrom_some _ _ _ (.inl q)⟩
  refine codeAny_call_function hr.depth (KX _ _ lk) rfl S.co S.gen rfl (PySem.W.codeRec_of KX hcd) (hb _ _ _ _ ?_)
  refine wpAny_newFunctionEnv_cells S.kind hkind fun env he s1 x => ?_
  subst he
  refine ⟨lim.keeps x.toInCall.keep, codeAny_func ?_⟩
  obtain ⟨t, ht, hq⟩ := hbody A outer s H vs Q E (hr.deeper _) hsp
  have I : Inv (cxOf CX P w K mg base N qual scope f cdv A outer s H E) [] (start N vs) H s1 := inv_start S hr.hd e0 hl r x
  refine wpAny_mono (ht [] s1 (start N vs) H _ I hq) (fun fl s' hs => ?_) fun e s' hs => hs
  have fin : ∀ {σ' : St} {H' : Hp} {v : V} {u : Value}, Inv (cxOf CX P w K mg base N qual scope f cdv A outer s H E) [] σ' H' s' -> RelV v u -> Q v H' -> CE outer P w H s Q u s' :=
    fun {σ' H' v u} J rv q => ⟨v, H', J.os, J.bare, J.base, J.hok, rv, q⟩
  cases fl with
  | ret u =>
    obtain ⟨v, σ', H', J, rv, q⟩ := hs
    exact fin J rv q
  | next =>
    obtain ⟨σ', H', J, q⟩ := hs
    exact fin (v := V.non) (u := Value.none) J rfl q
  | brk =>
    obtain ⟨_, _, _, q⟩ := hs
    exact False.elim q
  | cont =>
    obtain ⟨_, _, _, q⟩ := hs
    exact False.elim q
end L2
namespace L2
open PySem PySem.Spec PyProof.Rows
section
variable {X : Cx} {x : Str} {p pos : Pos} {e : Expr} {es : List Expr} {t : TA} {id T : String} {r : List V -> Hp -> VK -> Prop}
def tCB (r : List V -> Hp -> VK -> Prop) (t : TA) : TE := fun σ H Q => t σ H fun vs H1 => r vs H1 Q
theorem pe_callB (hc : CallR X (.builtin id) r) (hg : Gl X x) (hm : X.mg x = none) (hv : bootBuiltins x = some (.builtin id)) (ha : PA X (e :: es) t) (hn : x ≠ "__name__" := by decide) (hdb : (x == ("__debug__" : Str)) = false := by decide)
    (he : starEach (e :: es) X.env = (false, eval e X.env) :: starEach es X.env := by rfl) (hpl : (backTo pos (starEach es X.env)).any (·.1) = false := by rfl) : PE X (.Call (.Name x p) (e :: es) [] pos) (tCB r t) := by
  intro pins s σ H Q I h
  refine wpAny_Call_Name_kw (ld_blt I hg hm hv ?_ hn hdb)
  exact PyProof.Rows.callWith_builtin1 (thn (ha pos pins s σ H _ I h) fun us s1 ⟨vs, H1, I1, r1, q1⟩ => hc pins s1 σ H1 vs us Q I1 r1 q1) he hpl
theorem pe_callTy (hc : CallR X (.type T) r) (hg : Gl X x) (hm : X.mg x = none) (hv : bootBuiltins x = some (.type T)) (ha : PA X (e :: es) t) (hn : x ≠ "__name__" := by decide) (hdb : (x == ("__debug__" : Str)) = false := by decide)
    (he : starEach (e :: es) X.env = (false, eval e X.env) :: starEach es X.env := by rfl) (hpl : (backTo pos (starEach es X.env)).any (·.1) = false := by rfl) : PE X (.Call (.Name x p) (e :: es) [] pos) (tCB r t) := by
  intro pins s σ H Q I h
  refine wpAny_Call_Name_kw (ld_blt I hg hm hv ?_ hn hdb)
  exact PyProof.Rows.callWith_type1 (thn (ha pos pins s σ H _ I h) fun us s1 ⟨vs, H1, I1, r1, q1⟩ => hc pins s1 σ H1 vs us Q I1 r1 q1) he hpl
end
end L2
namespace HT
open PySem PyProof.Rows
section
variable {prog : Program} {w : World} {A : Around} {E : Value -> Shared -> Prop} {s : Shared}
theorem cat_tup {t b : Addr} {vs ws : List Value} {Q : Value -> Shared -> Prop} (ht : IsTup s.heap t vs.toArray) (hb : IsTup s.heap b ws.toArray) (hv : vs ≠ [])
    (h1 : ws = [] -> Q (.ref t) s) (h2 : ws ≠ [] -> Q (.ref s.heap.objs.size) { s with heap := s.heap.push { cls := .type "tuple", data := .seq (vs ++ ws).toArray } })
    (hsz : vs.length + ws.length <= sizeLine) : wpAny (model prog w) A (binaryOp .Add (.ref t) (.ref b)) Q E s := by
  obtain ⟨⟨cls, dd, data, sl⟩, ho, hc, n, hd⟩ := id ht
  obtain ⟨⟨cls2, dd2, data2, sl2⟩, ho2, hc2, n2, hd2⟩ := id hb
  simp only at hc hd hc2 hd2
  subst hc hd hc2 hd2
  have e : vs.toArray ++ ws.toArray = (vs ++ ws).toArray := by simp
  by_cases hw : ws = []
  · exact concat_meets ⟨_, ho, rfl⟩ ⟨_, ho2, rfl⟩ noFill_tuple_add seq_tuple_add PySem.F.slot_tuple_add PySem.F.entry_tuple_add (PySem.F.args_tuple_add_2 _ _)
      (tuple_addW1 t b vs.toArray ws.toArray n n2 dd dd2 sl sl2 (by simpa using hv) (by simp [hw])) ⟨ho, ho2, h1 hw⟩
  · refine concat_meets ⟨_, ho, rfl⟩ ⟨_, ho2, rfl⟩ noFill_tuple_add seq_tuple_add PySem.F.slot_tuple_add PySem.F.entry_tuple_add (PySem.F.args_tuple_add_2 _ _)
      (tuple_addW2 t b vs.toArray ws.toArray n n2 dd dd2 sl sl2 (by simpa using hv) (by simpa using hw) (by rw [List.size_toArray, List.size_toArray]; exact hsz)) ⟨ho, ho2, ?_⟩
    rw [e]
    exact h2 hw
def sIx (n d : Nat) : Option Int -> Nat
  | none => d
  | some v => if v < 0 then (v + (n : Int)).toNat else min v.toNat n
theorem sIx_none (n d : Nat) : sIx n d none = d := rfl
theorem sIx_nat (n d k : Nat) : sIx n d (some (k : Int)) = min k n := by
  show (if (k : Int) < 0 then ((k : Int) + (n : Int)).toNat else min (k : Int).toNat n) = min k n
  rw [if_neg (by omega), Int.toNat_natCast]
end
end HT
namespace L2
open PySem PySem.Spec PyProof.Rows
abbrev TO := St -> Hp -> (Option Int -> Hp -> Prop) -> Prop
def PO (X : Cx) (e : Option Expr) (t : TO) : Prop :=
  ∀ (pins : List (Addr × Obj)) (s : Shared) (σ : St) (H : Hp) (Q : Option Int -> Hp -> Prop), Inv X pins σ H s -> t σ H Q ->
    wpAny (model X.prog X.w) X.A (evalPart e X.env) (fun u s' => ∃ o H', Inv X pins σ H' s' /\ IsPart u o /\ Q o H') X.xe s
def tNoPart : TO := fun _ H Q => Q none H
def tPart (t : TE) : TO := fun σ H Q => t σ H fun x H1 => ∃ i, x = .int i /\ Q (some i) H1
theorem intsAre_of {ns : List Int} : ∀ {us : List Value}, Vals (ns.map V.int) us -> IntsAre us ns := by
  induction ns with
  | nil => intro us r; rw [List.map_nil] at r; cases r; exact .nil
  | cons n ns ih =>
    intro us r
    rw [List.map_cons] at r
    cases r with
    | cons r1 r2 =>
      obtain ⟨t, e⟩ := r1
      subst e
      exact .cons n t (ih r2)
section
variable {X : Cx} {e : Expr} {te : TE} {lo hi : Option Expr} {tl th : TO} {pos p2 : Pos}
theorem po_none : PO X none tNoPart := by
  intro pins s σ H Q I h
  rw [evalPart_none]
  exact wpAny_pure ⟨none, H, I, .none, h⟩
theorem po_some (h : PE X e te) : PO X (some e) (tPart te) := by
  intro pins s σ H Q I hw
  rw [evalPart_some]
  refine thn (h pins s σ H _ I hw) fun u s1 ⟨x, H1, I1, r1, q1⟩ => ?_
  obtain ⟨i, rfl, q⟩ := q1
  obtain ⟨t, rfl⟩ := r1
  exact ⟨some i, H1, I1, .int i t, q⟩
def SlR (X : Cx) (r : V -> Option Int -> Option Int -> Hp -> VK -> Prop) : Prop :=
  ∀ (pins : List (Addr × Obj)) (s : Shared) (σ : St) (H : Hp) (x : V) (v vl vu : Value) (lo hi : Option Int) (sl : Addr) (Q : VK), Inv X pins σ H s -> RelV x v -> s.heap.IsSliceOf sl vl vu .none -> IsPart vl lo -> IsPart vu hi -> r x lo hi H Q ->
    ∃ T id, typeLookup (.type T) "__getitem__" = pure (some (.builtin id)) /\ s.TypeIs v T /\ wpAny (model X.prog X.w) X.A (getItem v (.ref sl)) (EP X pins σ Q) X.xe s
def tSl (r : V -> Option Int -> Option Int -> Hp -> VK -> Prop) (te : TE) (tl th : TO) : TE := fun σ H Q => te σ H fun x H1 => tl σ H1 fun l H2 => th σ H2 fun u H3 => r x l u H3 Q
theorem pe_slice {r : V -> Option Int -> Option Int -> Hp -> VK -> Prop} (hr : SlR X r) (he : PE X e te) (hl : PO X lo tl) (hu : PO X hi th) : PE X (.Subscript e (.Slice lo hi none p2) pos) (tSl r te tl th) := by
  intro pins s σ H Q I h
  refine Subscript_ (thn (he pins s σ H _ I h) fun v s1 ⟨x, H1, I1, r1, q1⟩ => ?_)
  refine wpAny_Slice (thn (hl pins s1 σ H1 _ I1 q1) fun vl s2 ⟨l, H2, I2, pl, q2⟩ => thn (hu pins s2 σ H2 _ I2 q2) fun vu s3 ⟨u, H3, I3, pu, q3⟩ => ?_)
  rw [evalPart_none]
  refine wpAny_pure ?_
  have I4 : Inv X pins σ H3 { s3 with heap := s3.heap.push { cls := .type "slice", data := .fields #[vl, vu, .none] } } := I3.kept (t' := s3.toks) fun b ob q => Heap.get?_push_of_some _ q
  obtain ⟨T, id, hT, ht, hg⟩ := hr pins { s3 with heap := s3.heap.push { cls := .type "slice", data := .fields #[vl, vu, .none] } } σ H3 x v vl vu l u s3.heap.objs.size Q I4 r1 (Heap.IsSliceOf.new ..) pl pu q3
  show wpAny (model X.prog X.w) X.A (subscriptTail e (.Slice lo hi none p2) v (.ref s3.heap.objs.size)) (EP X pins σ Q) X.xe { s3 with heap := s3.heap.push { cls := .type "slice", data := .fields #[vl, vu, .none] } }
  exact tail_any (ops := [.ref s3.heap.objs.size, v]) ht hT hg (by with_unfolding_all rfl)
def cutV (xs : List V) (lo hi : Option Int) : List V := (xs.drop (HT.sIx xs.length 0 lo)).take (HT.sIx xs.length xs.length hi - HT.sIx xs.length 0 lo)
theorem cutV_length (xs : List V) (lo hi : Option Int) : (cutV xs lo hi).length <= xs.length := by
  unfold cutV
  rw [List.length_take, List.length_drop]
  omega
def rCatT (K : PySem.W.Frag) : R2 := fun x y H Q => ∃ a b xs ys, x = .ref a /\ y = .ref b /\ SqT K H a xs /\ SqT K H b ys /\ xs ≠ [] /\ xs.length + ys.length <= sizeLine /\
  (ys = [] -> Q (.ref a) H) /\ (ys ≠ [] -> ∀ p, H p = none -> Q (.ref p) (upd H p (.tup (xs ++ ys))))
theorem Vals.nil_iff {xs : List V} {us : List Value} (r : Vals xs us) : us = [] ↔ xs = [] := by
  cases r with
  | nil => simp
  | cons _ _ => simp
theorem op_catT : OpR X (binaryOp .Add) (rCatT X.K) := by
  intro pins s σ H x y v u Q I rx ry h
  obtain ⟨a, b, xs, ys, rfl, rfl, ha, hb, hx, hz, q1, q2⟩ := h
  cases rx
  cases ry
  obtain ⟨its, r1, p1, _⟩ := I.tuple ha
  obtain ⟨its2, r2, p2, _⟩ := I.tuple hb
  refine HT.cat_tup p1 p2 (fun z => hx (r1.nil_iff.mp z)) (fun z => ⟨.ref a, H, I, rfl, q1 (r2.nil_iff.mp z)⟩) (fun z => ?_) (by rw [<- r1.length, <- r2.length]; exact hz)
  refine ⟨.ref s.heap.objs.size, _, I.laid (t' := s.toks) (o := .tup (xs ++ ys)) (fun b ob q => Heap.get?_push_of_some _ q) (Nat.le_refl _) ?_, rfl, q2 (fun w => z (r2.nil_iff.mpr w)) _ (I.hok.fresh (Nat.le_refl _))⟩
  exact ⟨by rw [List.length_append]; exact hz, _, r1.append r2, IsTup.new _ _⟩
end
end L2
namespace L2
open PySem PySem.Spec PyProof.Rows
def ixN (n : Nat) (i : Int) : Option Nat := if 0 <= i then (if i < n then some i.toNat else none) else if -(n : Int) <= i then some (i + n).toNat else none
def atI {α : Type} (xs : List α) (i : Int) : Option α := (ixN xs.length i).bind fun j => xs[j]?
theorem ixN_seq {n : Nat} {i : Int} {j : Nat} (h : ixN n i = some j) : seqIndex? i n = some j /\ j < n /\ -(n : Int) <= i /\ i < n := by
  unfold ixN at h
  by_cases h0 : 0 <= i
  · rw [if_pos h0] at h
    by_cases h1 : i < n
    · rw [if_pos h1] at h
      have e : i.toNat = j := Option.some.inj h
      exact ⟨by rw [seqIndex_of h0 h1, e], by omega, by omega, h1⟩
    · rw [if_neg h1] at h; cases h
  · rw [if_neg h0] at h
    by_cases h1 : -(n : Int) <= i
    · rw [if_pos h1] at h
      have e : (i + n).toNat = j := Option.some.inj h
      exact ⟨by rw [seqIndex_neg (by omega) h1, e], by omega, h1, by omega⟩
    · rw [if_neg h1] at h; cases h
theorem atI_get {α : Type} {xs : List α} {i : Int} {v : α} (h : atI xs i = some v) : ∃ j, seqIndex? i xs.length = some j /\ xs[j]? = some v /\ j < xs.length /\ -(xs.length : Int) <= i /\ i < xs.length := by
  unfold atI at h
  cases e : ixN xs.length i with
  | none => rw [e] at h; cases h
  | some j =>
    rw [e] at h
    obtain ⟨h1, h2, h3, h4⟩ := ixN_seq e
    exact ⟨j, h1, h, h2, h3, h4⟩
theorem atI_nat {α : Type} {xs : List α} {j : Nat} {v : α} (h : xs[j]? = some v) : atI xs (j : Int) = some v := by
  have hj : j < xs.length := (List.getElem?_eq_some_iff.mp h).1
  have e : ixN xs.length (j : Int) = some j := by
    unfold ixN
    rw [if_pos (by omega), if_pos (by omega)]; simp
  unfold atI; rw [e]; exact h
def PlainIx (b : Expr) : Prop := ∀ o i, subscripted b false o i = operate [o, i] (getItem o i)
def IxR (X : Cx) (r : R2) : Prop :=
  ∀ (value slice : Expr) (pins : List (Addr × Obj)) (s : Shared) (σ : St) (H : Hp) (x y : V) (v u : Value) (Q : VK), Inv X pins σ H s -> RelV x v -> RelV y u -> r x y H Q ->
    subscripted slice false v u = operate [v, u] (getItem v u) -> wpAny (model X.prog X.w) X.A (subscriptTail value slice v u) (EP X pins σ Q) X.xe s
def MtR (X : Cx) (id : String) (r : V -> List V -> Hp -> VK -> Prop) : Prop :=
  ∀ (pins : List (Addr × Obj)) (s : Shared) (σ : St) (H : Hp) (x : V) (xs : List V) (v : Value) (us : List Value) (Q : VK), Inv X pins σ H s -> RelV x v -> Vals xs us -> r x xs H Q ->
    wpAny (model X.prog X.w) X.A (call (.builtin id) (v :: us)) (EP X pins σ Q) X.xe s
section
variable {X : Cx} {a b : Expr} {ta tb : TE} {pos : Pos}
theorem pe_ix {r : R2} (hr : IxR X r) (ha : PE X a ta) (hb : PE X b tb) (hs : PlainIx b) : PE X (.Subscript a b pos) (tOp r ta tb) := by
  intro pins s σ H Q I h
  exact Subscript_ (binT ha hb I h fun v u s2 x y H2 I2 rx ry q => hr a b pins s2 σ H2 x y v u Q I2 rx ry q (hs _ _))
def rIxL (K : PySem.W.Frag) : R2 := fun x y H Q => ∃ p xs i v, x = .ref p /\ y = .int i /\ SqL K H p xs /\ atI xs i = some v /\ Q v H
def rIxT (K : PySem.W.Frag) : R2 := fun x y H Q => ∃ p xs i v, x = .ref p /\ y = .int i /\ SqT K H p xs /\ atI xs i = some v /\ Q v H
theorem ix_list : IxR X (rIxL X.K) := by
  intro value slice pins s σ H x y v u Q I rx ry h hs
  obtain ⟨p, xs, i, z, rfl, rfl, hq, he, q⟩ := h
  cases rx
  obtain ⟨t, rfl⟩ := ry
  obtain ⟨its, r, pl, hz⟩ := I.list hq
  obtain ⟨j, h1, h2, h3, h4, h5⟩ := atI_get he
  obtain ⟨w, ew, rw'⟩ := r.get h2
  have hl := r.length
  have hn := line63
  have fin : EP X pins σ Q w s := ⟨z, H, I, rw', q⟩
  by_cases h0 : 0 <= i
  · have hj : i.toNat = j := by
      rw [seqIndex_of h0 h5] at h1
      exact Option.some.inj h1
    exact item_listR pl.isList h0 (by omega) (by rw [hj]; simpa using ew) fin hs
  · have hj : (i + (its.toArray.size : Int)).toNat = j := by
      rw [seqIndex_neg (by omega) h4] at h1
      rw [List.size_toArray, <- hl]
      exact Option.some.inj h1
    exact subscriptTail_builtinR (x := w) pl.isList.typeIs slot_list_getitem.lookup
      (wpAny_getItem_list_neg (Q := fun r s' => r = w /\ EP X pins σ Q r s') pl.isList (by omega) (by rw [List.size_toArray] <;> omega) (by omega) (by rw [hj]; simpa using ew) ⟨rfl, fin⟩) hs
theorem ix_tup : IxR X (rIxT X.K) := by
  intro value slice pins s σ H x y v u Q I rx ry h hs
  obtain ⟨p, xs, i, z, rfl, rfl, hq, he, q⟩ := h
  cases rx
  obtain ⟨t, rfl⟩ := ry
  obtain ⟨its, r, pl, hz⟩ := I.tuple hq
  obtain ⟨j, h1, h2, h3, h4, h5⟩ := atI_get he
  obtain ⟨w, ew, rw'⟩ := r.get h2
  have hl := r.length
  have hn := line63
  have fin : EP X pins σ Q w s := ⟨z, H, I, rw', q⟩
  exact subscriptTail_builtinR (x := w) pl.typeIs slot_tuple_getitem.lookup
    (getItem_tuple (j := j) (Q := fun r s' => r = w /\ EP X pins σ Q r s') pl (by omega) (by omega) (by rw [List.size_toArray, <- hl]; exact h1) (by simpa using ew) ⟨rfl, fin⟩) hs
theorem mapSeq_set (its : List Value) (n j : Nat) (u : Value) : Obj.mapSeq (·.setIfInBounds j u) { cls := .type "list", data := .seq its.toArray n } = { cls := .type "list", data := .seq (its.set j u).toArray n } := by
  simp [Obj.mapSeq]
theorem Inv.lst {pins : List (Addr × Obj)} {σ : St} {H : Hp} {s : Shared} {p : Addr} {xs : List V} (I : Inv X pins σ H s) (h : H p = some (.lst xs)) :
    ∃ (its : List Value) (n : Nat), Vals xs its /\ s.heap.get? p = some { cls := .type "list", data := .seq its.toArray n } /\ xs.length <= sizeLine := by
  obtain ⟨z, its, n, r, e⟩ := I.hok p _ h
  exact ⟨its, n, r, e, z⟩
theorem Inv.lstUpd {pins : List (Addr × Obj)} {σ : St} {H : Hp} {s : Shared} {p : Addr} {xs ys : List V} {its its' : List Value} {n n' : Nat} {f : Obj -> Obj} (I : Inv X pins σ H s) (h : H p = some (.lst xs))
    (ho : s.heap.get? p = some { cls := .type "list", data := .seq its.toArray n }) (hf : f { cls := .type "list", data := .seq its.toArray n } = { cls := .type "list", data := .seq its'.toArray n' }) (r : Vals ys its') (hz : ys.length <= sizeLine) (t : Nat) :
    Inv X pins σ (upd H p (.lst ys)) { s with heap := s.heap.update p f, toks := t } := by
  have e : (s.heap.update p f).get? p = some { cls := .type "list", data := .seq its'.toArray n' } := by
    rw [Heap.get?_update_self f ho (by rw [hf] <;> rfl), hf]
  refine I.write (x := p) (e := p) (by rw [h]; trivial) (.inl rfl) (fun b u hb q => (Heap.get?_update_other _ _ (Ne.symm hb)).trans q) ⟨_, e⟩ ?_
  exact ⟨hz, its', n', r, e⟩
def rSetL : V -> V -> V -> Hp -> (Hp -> Prop) -> Prop := fun o i v H Q => ∃ p xs k j, o = .ref p /\ i = .int k /\ H p = some (.lst xs) /\ ixN xs.length k = some j /\ Q (upd H p (.lst (xs.set j v)))
theorem set_list : PSet X rSetL := by
  intro pins s σ H o i v ov iv u Q I ro ri rv h
  obtain ⟨p, xs, k, j, rfl, rfl, hp, hj, q⟩ := h
  cases ro
  obtain ⟨t, rfl⟩ := ri
  obtain ⟨its, n, r, ho, hz⟩ := I.lst hp
  obtain ⟨h1, h2, h3, h4⟩ := ixN_seq hj
  have hl := r.length
  have hn := line63
  have I' : Inv X pins σ (upd H p (.lst (xs.set j v))) { s with heap := s.heap.update p (Obj.mapSeq (·.setIfInBounds j u)) } :=
    I.lstUpd hp ho (mapSeq_set its n j u) (r.set rv j) (by rw [List.length_set]; exact hz) s.toks
  by_cases h0 : 0 <= k
  · have hk : k.toNat = j := by
      rw [seqIndex_of h0 h4] at h1
      exact Option.some.inj h1
    exact PySem.W.ki_setAt ho h0 (by omega) (by rw [List.size_toArray, <- hl]; exact h4) (by rw [hk]; exact ⟨_, I', q⟩)
  · have hk : (k + (its.toArray.size : Int)).toNat = j := by
      rw [seqIndex_neg (by omega) h3] at h1
      rw [List.size_toArray, <- hl]
      exact Option.some.inj h1
    exact PySem.W.ki_setBack ho (by omega) (by rw [List.size_toArray, <- hl]; exact h3) (by omega) (by rw [hk]; exact ⟨_, I', q⟩)
theorem slice_bounds (lo hi : Option Int) (n : Nat) : (sliceBounds lo hi none n).1 = ((HT.sIx n 0 lo : Nat) : Int) /\ (sliceBounds lo hi none n).2.1 = ((HT.sIx n n hi : Nat) : Int) /\ (sliceBounds lo hi none n).2.2 = 1 := by
  refine ⟨?_, ?_, rfl⟩
  · cases lo with
    | none => simp [sliceBounds, HT.sIx]
    | some i =>
      simp only [sliceBounds, HT.sIx, Option.getD_none, show (1 : Int) > 0 by decide, if_true]
      by_cases h : i < 0
      · simp only [h, if_true] <;> omega
      · simp only [h, if_false] <;> omega
  · cases hi with
    | none => simp [sliceBounds, HT.sIx]
    | some i =>
      simp only [sliceBounds, HT.sIx, Option.getD_none, show (1 : Int) > 0 by decide, if_true]
      by_cases h : i < 0
      · simp only [h, if_true] <;> omega
      · simp only [h, if_false] <;> omega
theorem slicePick_cut (its : List Value) (lo hi : Option Int) : slicePick its.toArray lo hi none = ((its.drop (HT.sIx its.length 0 lo)).take (HT.sIx its.length its.length hi - HT.sIx its.length 0 lo)).toArray := by
  obtain ⟨h1, h2, h3⟩ := slice_bounds lo hi its.toArray.size
  unfold slicePick
  rw [h1, h2, h3]
  simp only [sliceRange_one, pick_run, List.size_toArray] <;> rfl
def rSlL (K : PySem.W.Frag) : V -> Option Int -> Option Int -> Hp -> VK -> Prop := fun x lo hi H Q => ∃ a xs, x = .ref a /\ SqL K H a xs /\ ∀ p, H p = none -> Q (.ref p) (upd H p (.lst (cutV xs lo hi)))
theorem sl_list : SlR X (rSlL X.K) := by
  intro pins s σ H x v vl vu lo hi sl Q I rx hs pl pu h
  obtain ⟨a, xs, rfl, hx, q⟩ := h
  cases rx
  obtain ⟨its, r, ht, hz⟩ := I.list hx
  have hlen := r.length
  refine ⟨"list", _, slot_list_getitem.lookup, ht.isList.typeIs, ?_⟩
  refine wpAny_getItem_list_slice ht.isList hs pl pu .none (by simp) ?_ (by rw [List.size_toArray] <;> omega)
  rw [slicePick_cut, <- hlen]
  refine ⟨.ref s.heap.objs.size, _, I.laid (t' := s.toks) (o := .lst (cutV xs lo hi)) (fun b ob q => Heap.get?_push_of_some _ q) (Nat.le_refl _) ?_, rfl, q _ (I.hok.fresh (Nat.le_refl _))⟩
  exact ⟨Nat.le_trans (cutV_length xs lo hi) hz, _, 0, (r.drop (HT.sIx xs.length 0 lo)).take (HT.sIx xs.length xs.length hi - HT.sIx xs.length 0 lo), Heap.get?_push_size _ rfl⟩
def flatV : V -> Bool
  | .non => true
  | .bl _ => true
  | .int _ => true
  | .str _ => true
  | _ => false
def eqV : V -> V -> Bool
  | .non, .non => true
  | .bl a, .bl b => a == b
  | .bl a, .int b => (if a then 1 else 0) == b
  | .int a, .bl b => a == (if b then 1 else 0)
  | .int a, .int b => a == b
  | .str a, .str b => a == b
  | _, _ => false
theorem eqAt_V {A : Around} {s : Shared} {y x : V} {u v : Value} (ry : RelV y u) (rx : RelV x v) (fy : flatV y = true) (fx : flatV x = true) : SeqAt.EqAt A s u v (eqV y x) := by
  cases y with
  | non =>
    cases ry
    cases x with
    | non => cases rx; exact SeqAt.EqAt.same _
    | bl b => cases rx; exact SeqAt.EqAt.none_bool b
    | int b => obtain ⟨t, rfl⟩ := rx; exact SeqAt.EqAt.none_int b t
    | str b => obtain ⟨t, rfl⟩ := rx; exact SeqAt.EqAt.none_str b t
    | _ => exact absurd (show false = true from fx) Bool.false_ne_true
  | bl a =>
    cases ry
    cases x with
    | non => cases rx; exact SeqAt.EqAt.bool_none a
    | bl b => cases rx; exact SeqAt.EqAt.bool_bool a b
    | int b => obtain ⟨t, rfl⟩ := rx; exact SeqAt.EqAt.bool_int a b t
    | str b => obtain ⟨t, rfl⟩ := rx; exact SeqAt.EqAt.bool_str a b t
    | _ => exact absurd (show false = true from fx) Bool.false_ne_true
  | int a =>
    obtain ⟨t', rfl⟩ := ry
    cases x with
    | non => cases rx; exact SeqAt.EqAt.int_none a t'
    | bl b => cases rx; exact SeqAt.EqAt.int_bool a t' b
    | int b => obtain ⟨t, rfl⟩ := rx; exact SeqAt.EqAt.int_int a t' b t
    | str b => obtain ⟨t, rfl⟩ := rx; exact SeqAt.EqAt.int_str a t' b t
    | _ => exact absurd (show false = true from fx) Bool.false_ne_true
  | str a =>
    obtain ⟨t', rfl⟩ := ry
    cases x with
    | non => cases rx; exact SeqAt.EqAt.str_none a t'
    | bl b => cases rx; exact SeqAt.EqAt.str_bool a t' b
    | int b => obtain ⟨t, rfl⟩ := rx; exact SeqAt.EqAt.str_int a t' b t
    | str b => obtain ⟨t, rfl⟩ := rx; exact SeqAt.EqAt.str_str a t' b t
    | _ => exact absurd (show false = true from fx) Bool.false_ne_true
  | _ => exact absurd (show false = true from fy) Bool.false_ne_true
def eqU (x : V) (u : Value) : Bool := match u with
  | .none => eqV .non x
  | .bool b => eqV (.bl b) x
  | .int i _ => eqV (.int i) x
  | .str z _ => eqV (.str z) x
  | _ => false
theorem eqU_of {x y : V} {u : Value} (r : RelV y u) (f : flatV y = true) : eqU x u = eqV y x := by
  cases y with
  | non => cases r; rfl
  | bl b => cases r; rfl
  | int i => obtain ⟨t, rfl⟩ := r; rfl
  | str z => obtain ⟨t, rfl⟩ := r; rfl
  | _ => exact absurd (show false = true from f) Bool.false_ne_true
theorem any_eqU {x : V} : ∀ {xs : List V} {us : List Value}, Vals xs us -> xs.all flatV = true -> us.any (eqU x) = xs.any fun y => eqV y x
  | _, _, .nil, _ => rfl
  | y :: xs, u :: us, .cons r t, f => by
    rw [List.all_cons, Bool.and_eq_true] at f
    rw [List.any_cons, List.any_cons, eqU_of r f.1, any_eqU t f.2]
theorem mem_eqAt {A : Around} {s : Shared} {x : V} {v : Value} (rx : RelV x v) (fx : flatV x = true) : ∀ {xs : List V} {us : List Value}, Vals xs us -> xs.all flatV = true -> ∀ u ∈ us, SeqAt.EqAt A s u v (eqU x u)
  | _, _, .nil, _ => fun u hu => by cases hu
  | y :: xs, u :: us, .cons r t, f => fun u' hu => by
    rw [List.all_cons, Bool.and_eq_true] at f
    rcases List.mem_cons.mp hu with rfl | hu
    · rw [eqU_of r f.1]; exact eqAt_V r rx f.1 fx
    · exact mem_eqAt rx fx t f.2 u' hu
def inV (x : V) (xs : List V) : Bool := xs.any fun y => eqV y x
def rIn (K : PySem.W.Frag) (neg : Bool) : R2 := fun x y H Q => ∃ p xs, y = .ref p /\ (SqL K H p xs \/ SqT K H p xs) /\ flatV x = true /\ xs.all flatV = true /\ Q (.bl (if neg then !inV x xs else inV x xs)) H
theorem op_in_seq : OpR X (compareOp .In) (rIn X.K false) := by
  intro pins s σ H x y v u Q I rx ry h
  obtain ⟨p, xs, rfl, hq, fx, fs, q⟩ := h
  cases ry
  rcases hq with hq | hq
  · obtain ⟨its, r, pl, hz⟩ := I.list hq
    refine SeqAt.in_listAt (eqU x) pl.isList (fun w hw => mem_eqAt rx fx r fs w (by simpa using hw)) ⟨.bl _, H, I, rfl, ?_⟩
    rw [show its.toArray.any (eqU x) = its.any (eqU x) by simp, any_eqU r fs]
    exact q
  · obtain ⟨its, r, pl, hz⟩ := I.tuple hq
    refine SeqAt.in_tupleAt (eqU x) pl (fun w hw => mem_eqAt rx fx r fs w (by simpa using hw)) ⟨.bl _, H, I, rfl, ?_⟩
    rw [show its.toArray.any (eqU x) = its.any (eqU x) by simp, any_eqU r fs]
    exact q
theorem call_len_seq : CallR X (.builtin "len") (fun xs H Q => ∃ p ys, xs = [.ref p] /\ (SqL X.K H p ys \/ SqT X.K H p ys) /\ Q (.int ys.length) H) := by
  intro pins s σ H xs us Q I r h
  obtain ⟨p, ys, rfl, hq, q⟩ := h
  obtain ⟨u, rfl, rx⟩ := vals1 r
  cases rx
  have hn := line63
  rcases hq with hq | hq
  · obtain ⟨its, r', pl, hz⟩ := I.list hq
    have hlen := r'.length
    exact Calls.call_len_list pl.isList (by simp only [List.size_toArray] <;> omega) ⟨.int ys.length, H, I.tok _, ⟨s.toks + 1, by rw [List.size_toArray, hlen]⟩, q⟩
  · obtain ⟨its, r', pl, hz⟩ := I.tuple hq
    have hlen := r'.length
    exact len_tuple pl (by simp only [List.size_toArray] <;> omega) ⟨.int ys.length, H, I.tok _, ⟨s.toks + 1, by rw [List.size_toArray, hlen]⟩, q⟩
theorem call_list_of : CallR X (.type "list") (fun xs H Q => ∃ p ys, xs = [.ref p] /\ (SqL X.K H p ys \/ SqT X.K H p ys) /\ ∀ l, H l = none -> Q (.ref l) (upd H l (.lst ys))) := by
  intro pins s σ H xs us Q I r h
  obtain ⟨p, ys, rfl, hq, q⟩ := h
  obtain ⟨u, rfl, rx⟩ := vals1 r
  cases rx
  have fin : ∀ (its : List Value), Vals ys its -> ys.length <= sizeLine -> ∀ (h' : Heap) (c' : Nat), (∀ b o', s.heap.get? b = some o' -> h'.get? b = some o') ->
      h'.get? s.heap.objs.size = some { cls := .type "list", dict := none, data := .seq its.toArray c', slots := #[] } -> EP X pins σ Q (.ref s.heap.objs.size) { s with heap := h' } := fun its r' hz h' c' kp e =>
    ⟨.ref s.heap.objs.size, _, I.laid (t' := s.toks) kp (Nat.le_refl _) (show ObjOk X.prog X.w _ h' _ (.lst ys) from ⟨hz, its, c', r', e⟩), rfl, q _ (I.hok.fresh (Nat.le_refl _))⟩
  rcases hq with hq | hq
  · obtain ⟨its, r', pl, hz⟩ := I.list hq
    have hlen := r'.length
    obtain ⟨o, ho, hc, n, hd⟩ := pl.isList
    exact call_list_seq p (.inl rfl) ho hc hd (fun h' c' kp e => fin its r' hz h' c' kp e) (by simp only [List.size_toArray] <;> omega)
  · obtain ⟨its, r', pl, hz⟩ := I.tuple hq
    have hlen := r'.length
    obtain ⟨o, ho, hc, n, hd⟩ := pl
    exact call_list_seq p (.inr rfl) ho hc hd (fun h' c' kp e => fin its r' hz h' c' kp e) (by simp only [List.size_toArray] <;> omega)
theorem call_tuple_of : CallR X (.type "tuple") (fun xs H Q => ∃ p ys, xs = [.ref p] /\ ((SqL X.K H p ys /\ ∀ l, H l = none -> Q (.ref l) (upd H l (.tup ys))) \/ (SqT X.K H p ys /\ Q (.ref p) H))) := by
  intro pins s σ H xs us Q I r h
  obtain ⟨p, ys, rfl, h⟩ := h
  obtain ⟨u, rfl, rx⟩ := vals1 r
  cases rx
  rcases h with ⟨hq, q⟩ | ⟨hq, q⟩
  · obtain ⟨its, r', pl, hz⟩ := I.list hq
    have hlen := r'.length
    refine call_tuple_list pl.isList (fun h' kp => ?_) (by simp only [List.size_toArray] <;> omega)
    have I1 : Inv X pins σ H { s with heap := h' } := I.kept (t' := s.toks) kp
    have I2 : Inv X pins σ (upd H h'.objs.size (.tup ys)) { s with heap := h'.push { cls := .type "tuple", data := .seq its.toArray } } :=
      I1.laid (t' := s.toks) (fun b o e => Heap.get?_push_of_some _ e) (Nat.le_refl _) (show ObjOk X.prog X.w _ _ _ (.tup ys) from ⟨hz, its, r', IsTup.new _ _⟩)
    exact ⟨.ref h'.objs.size, _, I2, rfl, q _ (I1.hok.fresh (Nat.le_refl _))⟩
  · obtain ⟨its, r', pl, hz⟩ := I.tuple hq
    exact call_tuple_same pl ⟨.ref p, H, I, rfl, q⟩
def tyV (K : PySem.W.Frag) (T : String) (x : V) (H : Hp) : Prop := match x with
  | .str _ => T = "str"
  | .int _ => T = "int"
  | .ref p => (T = "list" /\ ∃ xs, SqL K H p xs) \/ (T = "tuple" /\ ∃ o, K.lookup p = some o /\ o.cls = .type "tuple" /\ o.dict = none) \/
      (T = "dict" /\ ((∃ kvs, H p = some (.dK kvs)) \/ ∃ kvs, H p = some (.dT kvs))) \/ (T = "set" /\ ∃ S n, H p = some (.set S n))
  | _ => False
theorem tyV_is {pins : List (Addr × Obj)} {σ : St} {H : Hp} {s : Shared} {T : String} {x : V} {v : Value} (I : Inv X pins σ H s) (r : RelV x v) (ty : tyV X.K T x H) :
    s.TypeIs v T /\ ∀ a, v = .ref a -> ∃ ob, s.heap.get? a = some ob /\ ob.dict = none := by
  cases x with
  | str z =>
    obtain ⟨t, rfl⟩ := r
    cases (show T = "str" from ty)
    exact ⟨typeIs_str s z t, fun _ e => nomatch e⟩
  | int i =>
    obtain ⟨t, rfl⟩ := r
    cases (show T = "int" from ty)
    exact ⟨typeIs_int s i t, fun _ e => nomatch e⟩
  | ref p =>
    cases r
    rcases ty with ⟨rfl, xs, hq⟩ | ⟨rfl, o, hk, hc, hd⟩ | ⟨rfl, hk⟩ | ⟨rfl, S, n, hk⟩
    · obtain ⟨its, _, pl, _⟩ := I.list hq
      refine ⟨pl.isList.typeIs, fun a e => ?_⟩
      cases e
      obtain ⟨o, n, e, c, hd, _⟩ := pl
      exact ⟨o, e, hd⟩
    · refine ⟨⟨o, I.kIn p o hk, hc⟩, fun a e => ?_⟩
      cases e
      exact ⟨o, I.kIn _ o hk, hd⟩
    · have z : ∃ o, s.heap.get? p = some o /\ o.ExactDict := by
        rcases hk with ⟨kvs, hk⟩ | ⟨kvs, hk⟩
        · obtain ⟨_, _, _, _, o, _, _, e, ex, _⟩ := I.hok p _ hk
          exact ⟨o, e, ex⟩
        · obtain ⟨_, _, _, _, o, _, _, e, ex, _⟩ := I.hok p _ hk
          exact ⟨o, e, ex⟩
      obtain ⟨o, e, ex⟩ := z
      refine ⟨⟨o, e, ex.1⟩, fun a e2 => ?_⟩
      cases e2
      exact ⟨o, e, ex.2.1⟩
    · obtain ⟨o, _, _, _, e, ex, _⟩ := I.hok p _ hk
      refine ⟨⟨o, e, ex.1⟩, fun a e2 => ?_⟩
      cases e2
      exact ⟨o, e, ex.2.1⟩
  | _ => exact False.elim ty
def tBM (K : PySem.W.Frag) (T : String) (r : V -> List V -> Hp -> VK -> Prop) (to : TE) (t : TA) : TE := fun σ H Q => to σ H fun x H1 => tyV K T x H1 /\ t σ H1 fun xs H2 => r x xs H2 Q
variable {o e : Expr} {es : List Expr} {to : TE} {t : TA} {name : Str} {apos cpos : Pos} {T id : String} {r : V -> List V -> Hp -> VK -> Prop}
theorem pe_bm (pa : PlainAttrs T) (slot : Slot T name id) (hty : typeOf (.builtin id) = pure (.type "method_descriptor")) (hm : MtR X id r) (ho : PE X o to) (ha : PA X (e :: es) t)
    (hbase : attributeBase o name X.env (eval o X.env) = eval o X.env := by rfl)
    (hfew : ((backTo cpos (starEach (e :: es) X.env)).all (fun x => !x.1) && (backToKw cpos (keywordEach [] X.env)).all (fun x => x.1.isSome)
      && decide ((e :: es).length + ([] : List Keyword).length + (if ([] : List Keyword).isEmpty then 0 else 1) < 30)) = true := by rfl)
    (hline : (apos.endLine == cpos.line) = true := by rfl) (hs : starEach (e :: es) X.env = (false, eval e X.env) :: starEach es X.env := by rfl) (hplain : (backTo cpos (starEach es X.env)).any (·.1) = false := by rfl) :
    PE X (.Call (.Attribute o name apos) (e :: es) [] cpos) (tBM X.K T r to t) := by
  intro pins s σ H Q I h
  refine wpAny_Call_method_late hbase hfew hline rfl (thn (ho pins s σ H _ I h) fun v s1 ⟨x, H1, I1, r1, ty, q1⟩ => ?_)
  obtain ⟨h1, h2⟩ := tyV_is I1 r1 ty
  refine ⟨T, id, pa, slot, hty, h1, h2, ?_⟩
  have hA := ha cpos pins s1 σ H1 _ I1 q1
  rw [hs] at hA ⊢
  refine Calls.callWith_builtin (by show (false || (backTo cpos (starEach es X.env)).any (·.1)) = false; rw [hplain] <;> rfl) (Calls.evalArgs_plain ?_)
  exact thn hA fun us s2 ⟨vs, H2, I2, r2, q2⟩ => hm pins s2 σ H2 x vs v us Q I2 r1 r2 q2
end
end L2
namespace L2
open PySem PySem.Spec PyProof.Rows
def MtM (X : Cx) (id : String) (r : V -> List V -> Hp -> VK -> Prop) : Prop :=
  ∀ (pins : List (Addr × Obj)) (s : Shared) (σ : St) (H : Hp) (x : V) (xs : List V) (v : Value) (us : List Value) (Q : VK), Inv X pins σ H s -> RelV x v -> Vals xs us -> r x xs H Q ->
    wpAny (model X.prog X.w) X.A (call (.builtin id) (v :: us)) (EP X pins σ Q) X.xe s
theorem Vals.one : ∀ {x : V} {us : List Value}, Vals [x] us -> ∃ u, us = [u] /\ RelV x u
  | _, _, .cons r .nil => ⟨_, rfl, r⟩
theorem Vals.rep {xs : List V} {us : List Value} (h : Vals xs us) : ∀ k : Nat, Vals (List.replicate k xs).flatten (List.replicate k us).flatten
  | 0 => .nil
  | k + 1 => by
    rw [List.replicate_succ, List.replicate_succ, List.flatten_cons, List.flatten_cons]
    exact Vals.append h (Vals.rep h k)
theorem foldl_rep (its : List Value) : ∀ (k : Nat) (acc : List Value),
    List.foldl (fun x1 x2 => x1 ++ x2) acc.toArray (List.replicate k its.toArray) = (acc ++ (List.replicate k its).flatten).toArray
  | 0, acc => by simp
  | k + 1, acc => by
    have e : acc.toArray ++ its.toArray = (acc ++ its).toArray := by simp
    have e2 : (acc ++ its) ++ (List.replicate k its).flatten = acc ++ (List.replicate (k + 1) its).flatten := by
      rw [List.replicate_succ, List.flatten_cons, List.append_assoc]
    rw [<- e2, <- foldl_rep its k (acc ++ its), <- e, List.replicate_succ, List.foldl_cons]
section
variable {X : Cx} {pins : List (Addr × Obj)} {σ : St} {H : Hp} {s : Shared} {l b : Addr} {xs ys zs : List V}
theorem Inv.lset {its its' : List Value} {n : Nat} {f : Array Value -> Array Value} {t' : Nat} (I : Inv X pins σ H s) (hH : H l = some (.lst xs))
    (e : s.heap.get? l = some { cls := .type "list", data := .seq its.toArray n }) (hf : f its.toArray = its'.toArray) (hv : Vals ys its') (hz : ys.length <= sizeLine) :
    Inv X pins σ (upd H l (.lst ys)) { s with heap := s.heap.update l (Obj.mapSeq f), toks := t' } := by
  have q := PySem.IsL.update e f
  rw [hf] at q
  refine I.write (x := l) (e := l) (by rw [hH]; exact trivial) (.inl rfl) (fun b' u hb hu => (Heap.get?_update_other s.heap (Obj.mapSeq f) (Ne.symm hb)).trans hu) ⟨_, q⟩ ?_
  exact ⟨hz, its', _, hv, q⟩
theorem Inv.lnew {its : List Value} {t' : Nat} (I : Inv X pins σ H s) (hv : Vals ys its) (hz : ys.length <= sizeLine) :
    Inv X pins σ (upd H s.heap.objs.size (.lst ys)) { s with heap := s.heap.push { cls := .type "list", data := .seq its.toArray }, toks := t' } :=
  I.laid (fun _ _ q => Heap.get?_push_of_some _ q) (Nat.le_refl _) ⟨hz, its, 0, hv, Heap.get?_push_size _ rfl⟩
theorem Inv.fresh (I : Inv X pins σ H s) : H s.heap.objs.size = none := I.hok.fresh (Nat.le_refl _)
theorem Inv.lstM (I : Inv X pins σ H s) (hH : H l = some (.lst xs)) : xs.length <= sizeLine /\ ∃ (its : List Value) (n : Nat), Vals xs its /\ xs.length = its.length /\ s.heap.get? l = some { cls := .type "list", data := .seq its.toArray n } := by
  obtain ⟨z, its, n, r, e⟩ := I.hok l _ hH
  exact ⟨z, its, n, r, r.length, e⟩
end
section
variable {X : Cx}
def rAppend : V -> List V -> Hp -> VK -> Prop := fun x vs H Q => ∃ l xs y, x = .ref l /\ vs = [y] /\ H l = some (.lst xs) /\ xs.length < sizeLine /\ Q .non (upd H l (.lst (xs ++ [y])))
theorem mt_append : MtM X "list.append" rAppend := by
  intro pins s σ H x vs v us Q I rx rv h
  obtain ⟨l, xs, y, rfl, rfl, hH, hz, q⟩ := h
  cases rx
  obtain ⟨u, rfl, ru⟩ := rv.one
  obtain ⟨z, its, n, r, hl, e⟩ := I.lstM hH
  refine call_meets F.slot_list_append ⟨_, e, rfl⟩ F.entry_list_append (F.args_list_append_2 _ _) (PySem.list_append l its.toArray n u (by rw [List.size_toArray]; omega)) ⟨e, ?_⟩
  refine ⟨.non, _, I.lset (its' := its ++ [u]) hH e (by simp) (r.append (.cons ru .nil)) ?_, rfl, q⟩
  rw [List.length_append, List.length_singleton]
  omega
def rCat : R2 := fun x y H Q => ∃ l b xs zs, x = .ref l /\ y = .ref b /\ H l = some (.lst xs) /\ H b = some (.lst zs) /\ xs.length + zs.length <= sizeLine /\ ∀ p, H p = none -> Q (.ref p) (upd H p (.lst (xs ++ zs)))
theorem op_cat : OpR X (binaryOp .Add) rCat := by
  intro pins s σ H x y v u Q I rx ry h
  obtain ⟨l, b, xs, zs, rfl, rfl, hH, hB, hz, q⟩ := h
  cases rx
  cases ry
  obtain ⟨z, its, n, r, hl, e⟩ := I.lstM hH
  obtain ⟨z2, its2, n2, r2, hl2, e2⟩ := I.lstM hB
  refine PySem.P.add_list e e2 ?_ (by rw [List.size_toArray, List.size_toArray]; omega)
  have ea : its.toArray ++ its2.toArray = (its ++ its2).toArray := by simp
  rw [ea]
  exact ⟨.ref _, _, I.lnew (t' := s.toks) (r.append r2) (by rw [List.length_append]; omega), rfl, q _ I.fresh⟩
theorem len_rep {α : Type} (xs : List α) (k : Nat) : (List.replicate k xs).flatten.length = k * xs.length := by
  induction k with
  | zero => simp
  | succ k ih => rw [List.replicate_succ, List.flatten_cons, List.length_append, ih, Nat.succ_mul, Nat.add_comm]
end
end L2
namespace Att
open PySem PySem.W PySem.Calls PyProof.Rows
theorem ints_of_wellAll {P : Params} {h : Heap} : ∀ (ns : List Int) (vs : List Value), WellAll P h vs (ns.map WData.int) -> IntsAre vs ns := by
  intro ns
  induction ns with
  | nil =>
    intro vs w
    rw [List.map_nil] at w
    cases w
    exact .nil
  | cons n ns ih =>
    intro vs w
    rw [List.map_cons] at w
    cases w with
    | cons a b =>
      cases a
      exact .cons _ _ (ih _ b)
theorem script_of {l : OpenLaw} {n : Nat} (hn : l.most = some n) {P : Params} {h : Heap} {args : List WData} {vals : List Value}
    (hpre : l.row.toRowW.claim.pre args = true) (hwl : WellAll P h vals args) :
    ∃ a vs ns, vals = [Value.ref a] /\ args = [WData.list (ns.map WData.int)] /\ h.get? a = some { cls := .type "list", data := .seq vs.toArray } /\ IntsAre vs ns /\ ns.length <= n := by
  have hsh : WShape.hasAll [] args [.list .int] = true := (pre_splitW hpre).1
  have hc : l.pre.holds [] { args := args } = true := (pre_splitW hpre).2
  obtain ⟨d, r, rfl, h1, h2⟩ := hasAllW_cons hsh
  obtain rfl := hasAllW_nil h2
  obtain ⟨xs, rfl, h3⟩ := hasW_list h1
  obtain ⟨ns, rfl⟩ := items_int h3
  have hlen : ns.length <= n := by
    unfold OpenLaw.pre at hc
    have h4 : (WTm.not (.lt (.lit (.int (n : Int))) (.len (.arg 0)))).holds [] { args := [.list (ns.map .int)] } = true := by
      have h4 := (holds_andW hc).1
      rw [hn] at h4
      exact h4
    have h5 := condW_of h4 (w_not (w_lt w_lit (w_len_list (w_arg rfl))))
    rw [List.length_map] at h5
    refine Nat.le_of_not_lt fun q => ?_
    have q' : (n : Int) < ((ns.length : Nat) : Int) := by omega
    first
      | (rw [decide_eq_true q'] at h5; exact absurd h5 (by decide))
      | (simp at h5; omega)
  cases hwl with
  | cons w1 w2 =>
    cases w2
    cases w1 with
    | list ho hall => exact ⟨_, _, ns, rfl, rfl, ho, ints_of_wellAll ns _ hall, hlen⟩
theorem post_true (l : OpenLaw) (args : List WData) : l.row.toRowW.claim.post args (.bool true) args = true :=
  postW_of (r := l.row.toRowW) (X := (true == true))
    (show WShape.has [] (.bool true) .bool = true by first | rfl | decide | simp [WShape.has, WShape.arms, WShape.armsAll])
    (show (WTm.eq .res (.lit (.bool true))).value [] { args := args, res := some (.bool true), after := args } = some (.bool (true == true)) from w_eq_bool (w_res rfl) w_lit) rfl
theorem attach_call {l : OpenLaw} {n : Nat} {q : Program} {loose : List Str} {XP : (Str -> Option Value) -> Heap -> Prop} {YP : World -> Heap -> Prop} {d : DefRec}
    (hn : l.most = some n) (hdf : d.params.defaults = [])
    (call : ∀ (w : World) (s₀ s₁ : Shared) (mg mb : Str -> Option Value) (fa : Addr) (o : Obj) (pm cd doc : Value) (a : Addr) (vs : List Value) (ns : List Int),
      Ground q loose [] XP w s₀ mg mb s₁.heap -> YP w s₁.heap ->
      s₁.heap.get? fa = some o -> o.data = .func (docDef d.name d.params d.body d.scope pm cd doc) -> s₁.heap.CodeRec cd d.name -> mg d.name = some (.ref fa) ->
      s₁.heap.get? a = some { cls := .type "list", data := .seq vs.toArray } -> IntsAre vs ns -> ns.length <= n -> s₁.gens = #[] ->
      codeAny (model l.prog w) callerA (.call (.ref fa) ⟨[.ref a], []⟩) (fun r s' => r = .ok (.ret (.bool true)) /\ OldK s₁.heap s'.heap /\ s'.os = s₁.os /\ AllBare s'.gens) s₁) :
    WalkO q loose XP YP l.row.toRowW d [] (fun f vs => PySem.call f vs) := by
  intro w s₀ s₁ mg mb G Y fa o pm cd doc dV kV ho hd hcd hD hmg hg args vals as hpre hlay hrd hwl hlo
  obtain rfl : dV = .none := Dflts.none hD hdf
  obtain rfl : kV = .none := Dflts.noKw hD
  obtain ⟨a, vs, ns, rfl, rfl, hobj, hints, hlen⟩ := script_of hn hpre hwl
  refine enter_call (codeAny_mono (call w s₀ s₁ mg mb fa o pm cd doc a vs ns G Y ho (fd_plain hd) hcd hmg hobj hints hlen hg) fun r s' hq => ?_)
  obtain ⟨rfl, h2, h3, h4⟩ := hq
  exact ⟨.inl ⟨.bool true, .bool true, [], rfl, fun _ => rfl, .bool true, post_true l _, fun _ => ⟨List.Pairwise.nil, fun _ hm => (nomatch hm)⟩⟩, h2, h3, h4⟩
end Att
namespace L2
open PySem PySem.Spec PyProof.Rows
theorem vals_ints : ∀ {vs : List Value} {ns : List Int}, IntsAre vs ns -> Vals (ns.map V.int) vs
  | _, _, .nil => .nil
  | _, _, .cons n t h => .cons ⟨t, rfl⟩ (vals_ints h)
end L2
namespace L2
open PySem PySem.Spec PyProof.Rows
abbrev KOf {K : PySem.W.Frag} {h : Heap} (_ : K.In h) : PySem.W.Frag := K
end L2
namespace L2
open PySem PySem.Spec PyProof.Rows
def defArgs (s : Stmt) : Arguments := match s with
  | .FunctionDef _ a _ _ _ _ _ _ _ _ => a
  | _ => { posonlyargs := [], args := [], vararg := none, kwonlyargs := [], kw_defaults := [], kwarg := none, defaults := [] }
def defBody (s : Stmt) : List Stmt := match s with
  | .FunctionDef _ _ b _ _ _ _ _ _ _ => b
  | _ => []
def defScope (s : Stmt) : Scope := match s with
  | .FunctionDef _ _ _ _ _ _ sc _ _ _ => sc
  | _ => { kind := .function, names := [], isGenerator := false, isCoroutine := false }
abbrev CX0 : CXT := fun _ _ _ _ _ _ => False
abbrev E0 : XK := fun _ _ _ => False
theorem pass0 {X : Cx} : Passes CX0 X E0 := fun _ _ _ _ _ _ _ h => h.elim
structure Fun (K : PySem.W.Frag) (x qual : Str) (st : Stmt) (f : Addr) (fd : FuncData) : Prop where
  ex : ∃ (oc : Value) (od : Option Addr) (kV doc pm : Value) (an : Option Addr) (cdv ct : Value) (osl : Array (Option Value)),
    fd = PySem.W.fnOf x qual (defArgs st) (defBody st) (defScope st) .none kV doc pm an cdv ct /\ K.lookup f = some ⟨oc, od, .func fd, osl⟩ /\ PySem.W.codeIn K cdv qual = true
  kp : PySem.W.keepIn K (.ref f) = true
section
variable {P : Program} {w : World} {K : PySem.W.Frag} {mg : Str -> Option Value} {base : Heap}
theorem Fun.ok {x qual : Str} {st : Stmt} {f : Addr} {fd : FuncData} {N ps : List Str} {k : Nat} {sp : Sp} (F : Fun K x qual st f fd) (S : FnScope N ps (defScope st)) (len : ∀ vs H Q E, sp vs H Q E -> vs.length = ps.length)
    (hbody : ∀ (cdv : Value) (A : Around) (outer : List Env) (s : Shared) (H : Hp) (vs : List V) (Q : VK) (E : XK), Room k (A.deeper (envOfC qual (defScope st) s.heap.objs.size f cdv)) -> sp vs H Q E ->
      ∃ t, PSs (cxOf CX0 P w K mg base N qual (defScope st) f cdv A outer s H E).nox (defBody st) t /\ t { nx := fun _ H' => Q .non H', rt := Q } (start N vs) H) : FnOk P w K mg base CX0 (k + 1) f fd ps sp := by
  obtain ⟨oc, od, kV, doc, pm, an, cdv, ct, osl, rfl, lk, hcd⟩ := F.ex
  refine fn_of lk hcd S len fun A outer s H vs Q E hr hsp => ?_
  obtain ⟨t, h, q⟩ := hbody cdv A outer s H vs Q E hr hsp
  exact ⟨t, h.nox, q⟩
theorem Fun.binds {x qual : Str} {st : Stmt} {f : Addr} {fd : FuncData} {ps : List Str} (F : Fun K x qual st f fd)
    (h : ∀ (kV doc pm : Value) (an : Option Addr) (cdv ct : Value) (us : List Value), us.length = ps.length -> bindArgs (PySem.W.fnOf x qual (defArgs st) (defBody st) (defScope st) .none kV doc pm an cdv ct) ⟨us, []⟩ = pure (ps.zip us)) : Binds K fd ps [] := by
  obtain ⟨oc, od, kV, doc, pm, an, cdv, ct, osl, rfl, lk, hcd⟩ := F.ex
  exact .all (h kV doc pm an cdv ct)
theorem fun_mk {x qual : Str} {st : Stmt} {f : Addr} {oc : Value} {od an : Option Addr} {osl : Array (Option Value)} {kV doc pm cdv ct : Value} (l : K.lookup f = some ⟨oc, od, .func (PySem.W.fnOf x qual (defArgs st) (defBody st) (defScope st) .none kV doc pm an cdv ct), osl⟩)
    (c : PySem.W.codeIn K cdv qual = true) (k : PySem.W.keepIn K (.ref f) = true) : Fun K x qual st f (PySem.W.fnOf x qual (defArgs st) (defBody st) (defScope st) .none kV doc pm an cdv ct) := ⟨⟨oc, od, kV, doc, pm, an, cdv, ct, osl, rfl, l, c⟩, k⟩
end
theorem small1000 {n : Nat} (h : n <= 1000) : n < sizeLine := Nat.lt_of_le_of_lt h (by decide)
section
variable {X : Cx}
theorem pv (i : Nat) {x : Str} {pos : Pos} (hN : X.N[i]? = some x := by rfl) (hv : Vis X.env.scope x := by first | exact Or.inl rfl | exact Or.inr (Or.inl rfl) | exact Or.inr (Or.inr rfl)) (hd : (x == ("__debug__" : Str)) = false := by decide)
    (hcd : (x == ("__classdict__" : Str)) = false := by decide) : PE X (.Name x pos) (tVar i) := pe_var hN hv hd hcd
end
theorem iteF {A B : Prop} (h : B) : if false = true then A else B := by
  rw [if_neg Bool.false_ne_true]
  exact h
theorem iteT {A B : Prop} (h : A) : if true = true then A else B := by
  rw [if_pos rfl]
  exact h
theorem iteNS {c A B : Prop} [Decidable c] (hc : c) (h : B) : if (!decide c) = true then A else B := by
  rw [decide_eq_true hc]
  exact iteF h
def Same (H H' : Hp) : Prop := ∀ b o, H b = some o -> H' b = some o
theorem Same.refl (H : Hp) : Same H H := fun _ _ h => h
theorem Same.trans {H H1 H2 : Hp} (a : Same H H1) (b : Same H1 H2) : Same H H2 := fun c o h => b c o (a c o h)
theorem Same.free {H H' : Hp} (e : Same H H') {l : Addr} (h : H' l = Option.none) : H l = Option.none := by
  cases q : H l with
  | none => rfl
  | some o =>
    rw [e l o q] at h
    cases h
theorem Same.seq {K : PySem.W.Frag} {H H' : Hp} {a : Addr} {xs : List V} (e : Same H H') (h : SqL K H a xs) : SqL K H' a xs := by
  rcases h with (h | ⟨o, h⟩) | h
  · exact .inl (.inl (e _ _ h))
  · exact .inl (.inr ⟨o, e _ _ h⟩)
  · exact .inr h
end L2
set_option maxHeartbeats 4000000
namespace L2
open PySem PySem.Spec PyProof.Rows
def Bits (n : Nat) (x : Int) : Prop := x.natAbs < 2 ^ n
theorem Bits.mono {n m : Nat} {x : Int} (h : Bits n x) (l : n <= m) : Bits m x := Nat.lt_of_lt_of_le h (Nat.pow_le_pow_right (by decide) l)
theorem Bits.mul {n m : Nat} {x y : Int} (h : Bits n x) (k : Bits m y) : Bits (n + m) (x * y) := by
  unfold Bits at *
  rw [Int.natAbs_mul, Nat.pow_add]
  exact Nat.mul_lt_mul'' h k
theorem Bits.log2 {n : Nat} {x : Int} (h : Bits n x) (hn : 0 < n) : x.natAbs.log2 < n := by
  by_cases z : x.natAbs = 0
  · rw [z]; exact Nat.lt_of_le_of_lt (by decide) hn
  · exact (Nat.log2_lt z).mpr h
theorem Bits.intBits {n : Nat} {x : Int} (h : Bits n x) : Builtin.Int.intBits x <= n := by
  unfold Builtin.Int.intBits
  by_cases z : (x == 0) = true
  · rw [if_pos z]; exact Nat.zero_le _
  · rw [if_neg z]
    have z' : x.natAbs ≠ 0 := by
      intro e; apply z; have : x = 0 := Int.natAbs_eq_zero.mp e; rw [this]; rfl
    exact (Nat.log2_lt z').mpr h
def CMulB (i j : Int) : Prop := ∃ n, n <= 1048576 /\ Bits n i /\ Bits n j
theorem CMulB.ok {i j : Int} (h : CMulB i j) : IntMulOk i j := by
  obtain ⟨n, hn, h1, h2⟩ := h
  exact .of_bits (Nat.le_trans h1.intBits (Nat.le_trans hn (by decide))) (Nat.le_trans h2.intBits (Nat.le_trans hn (by decide)))
def CDivB (_ j : Int) : Prop := j ≠ 0 /\ Bits 9000 j
section
variable {X : Cx}
theorem op_mulB : OpR X (binaryOp .Mult) (rI CMulB fun i j => .int (i * j)) := opI fun _ _ _ _ _ _ _ hc q => mul_int q hc.ok
theorem op_fdivB : OpR X (binaryOp .FloorDiv) (rI CDivB fun i j => .int (i.fdiv j)) := opI fun _ _ _ _ _ _ _ hc q => floordiv_int hc.1 q (.inl (PyProof.noPylong_of_log2 (hc.2.log2 (by decide))))
end
section
variable {X : Cx} {pins : List (Addr × Obj)} {σ : St} {H : Hp} {s : Shared} {h' : Heap} {ch : List Addr}
theorem Inv.turnedL0 {t' : Nat} (I : Inv X pins σ H s) (k : ∀ b o, b ∉ ch -> s.heap.get? b = some o -> h'.get? b = some o) (hf : ∀ b ∈ ch, FpOk X pins H b) :
    Inv X pins σ H { s with heap := h', toks := t' } := by
  have nit : ∀ b u, H b = some u -> b ∉ ch := fun b u e z => by rw [(hf b z).1] at e; cases e
  refine I.step (g' := s.gens) (d' := s.drawn) (ch := ch) (fun b hb => ⟨(hf b hb).2.2.2.1, (hf b hb).2.1, (hf b hb).2.2.2.2.1, (hf b hb).2.2.2.2.2⟩) (fun b o _ _ hc e _ => k b o hc e) (fun b o _ _ hc e _ => ⟨o.slots, k b o hc e⟩) (fun _ _ _ _ n => n)
    (fun b o hc e => ⟨o, k b o hc e⟩) (fun _ _ e => e) (fun _ _ _ e => e) (fun b ps e => ⟨#[], by rw [e]; simp⟩) (fun m hm => ?_) (fun b u e => ?_) I.bare
  · obtain ⟨o, es, ep, ho, r⟩ := hm
    exact ⟨o, es, ep, k _ o (fun z => (hf _ z).2.1 rfl) ho, r⟩
  · refine (I.hok b u e).stay (fun c v hc q => k c v ?_ q) (fun _ q => q) fun _ _ q => q
    rcases hc with z | z
    · rw [z]; exact nit b u e
    · exact nit c _ z
theorem Inv.turnedNew {t' : Nat} {T : Addr} {o : HO} (I : Inv X pins σ H s) (k : ∀ b o, b ∉ ch -> s.heap.get? b = some o -> h'.get? b = some o) (hf : ∀ b ∈ ch, FpOk X pins H b)
    (hT : s.heap.objs.size <= T) (new : ObjOk X.prog X.w (upd H T o) h' T o) :
    Inv X pins σ (upd H T o) { s with heap := h', toks := t' } := by
  have hn : H T = none := I.hok.fresh hT
  have nT : ∀ b ob, s.heap.get? b = some ob -> b ≠ T := fun b ob e => Nat.ne_of_lt (Nat.lt_of_lt_of_le (Heap.lt_size e) hT)
  have nit : ∀ b u, H b = some u -> b ∉ ch := fun b u e z => by rw [(hf b z).1] at e; cases e
  refine I.step (g' := s.gens) (d' := s.drawn) (ch := ch) (fun b hb => ⟨(hf b hb).2.2.2.1, (hf b hb).2.1, (hf b hb).2.2.2.2.1, (hf b hb).2.2.2.2.2⟩) (fun b o _ _ hc e _ => k b o hc e) (fun b o _ _ hc e _ => ⟨o.slots, k b o hc e⟩)
    (fun b ob _ e n => by rw [upd_ne (nT b ob e)]; exact n) (fun b o hc e => ⟨o, k b o hc e⟩) (fun b xs e => by rw [upd_ne (ne_of_none e hn)]; exact e) (fun b ob u e => by rw [upd_ne (ne_of_none e hn)]; exact e)
    (fun b ps e => ⟨#[], by rw [upd_ne (ne_of_none e hn), e]; simp⟩) (fun m hm => ?_) (fun b u e => ?_) I.bare
  · obtain ⟨ob, es, ep, ho, r⟩ := hm
    exact ⟨ob, es, ep, k _ ob (fun z => (hf _ z).2.1 rfl) ho, r⟩
  · by_cases hb : b = T
    · subst hb
      rw [upd_same] at e
      cases e
      exact new
    · rw [upd_ne hb] at e
      refine (I.hok b u e).stay (fun c v hc q => k c v ?_ q) (fun c q => by rw [upd_ne (ne_of_none q hn)]; exact q) fun c xs q => by rw [upd_ne (ne_of_none q hn)]; exact q
      rcases hc with z | z
      · rw [z]; exact nit b u e
      · exact nit c _ z
end
def SqB (K : PySem.W.Frag) (b : Bool) (H : Hp) (a : Addr) (xs : List V) : Prop := bif b then SqT K H a xs else SqL K H a xs
section
variable {X : Cx} {pins : List (Addr × Obj)} {σ : St} {H : Hp} {s : Shared} {a c : Addr} {xs ys : List V} {b : Bool}
theorem Inv.awayK (I : Inv X pins σ H s) (f : FpOk X pins H c) {o : Obj} (h : X.K.lookup a = some o) : a ≠ c := by
  intro z
  have h1 := I.mod.kin a o h
  have h2 := (I.ok.bs a o h1).1
  rcases f.2.2.2.1 with q | q
  · exact I.ok.noex a o h1 (by rw [z]; exact q)
  · rw [<- z] at q; exact absurd (Nat.lt_of_lt_of_le (Heap.lt_size h2) q) (Nat.lt_irrefl _)
theorem Inv.away (I : Inv X pins σ H s) (f : FpOk X pins H c) (h : SqB X.K b H a xs) : a ≠ c := by
  have no : ∀ {u : HO}, H a = some u -> a ≠ c := fun e z => by rw [z, f.1] at e; cases e
  cases b
  · rcases (show SqL X.K H a xs from h) with (e | ⟨o, e⟩) | ⟨o, its, n, e, _⟩
    · exact no e
    · exact no e
    · exact I.awayK f e
  · rcases (show SqT X.K H a xs from h) with (e | ⟨o, e⟩) | ⟨o, its, n, e, _⟩
    · exact no e
    · exact no e
    · exact I.awayK f e
end
def Ite (K : PySem.W.Frag) (a : Addr) : It :=
  ⟨fun i H => ∃ xs x, SqL K H a xs /\ xs[i]? = some x,
   fun i H x H' => ∃ T v, x = .ref T /\ H T = none /\ H' = upd H T (.tup [.int (i : Nat), v]) /\ ∀ xs, SqL K H a xs -> xs[i]? = some v,
   fun i H => ∃ xs, SqL K H a xs /\ xs.length <= i⟩
theorem turn_enum {P : Program} {w : World} {K : PySem.W.Frag} {es : List Expr} {k : Nat} {pos : Pos} (a e it : Addr) (hei : e ≠ it) :
    Turn P w K (.Tuple es k pos) (Ite K a) [e, it] e (fun i h => (∃ old, IsEnum h e it i old) /\ h.IsListIter it a i) where
  mem := by simp
  obj := fun i h st b hb => by
    obtain ⟨⟨old, h1⟩, o, h2, c, d⟩ := st
    have hb' : b = e \/ b = it := by simpa using hb
    rcases hb' with z | z
    · subst z
      exact ⟨_, h1, fun v z => by
        have z' : Data.fields _ = Data.cell v := z
        cases z'⟩
    · subst z; exact ⟨o, h2, fun v z => by rw [d] at z; cases z⟩
  keep := fun i h h' st kk => by
    obtain ⟨⟨old, h1⟩, st2⟩ := st
    exact ⟨⟨old, kk e (by simp) _ h1⟩, st2.at fun o q => kk it (by simp) o q⟩
  item := by
    intro X hP hw hK hc i pins s σ H E I hf st hg
    subst hP hw hK
    obtain ⟨xs, x, hq, hx⟩ := hg
    obtain ⟨its, rv, p, hz⟩ := I.list hq
    obtain ⟨u, hu, ru⟩ := rv.get hx
    obtain ⟨⟨old, he⟩, hit⟩ := st
    have hne : a ≠ it := I.away (b := false) (hf it (by simp)) hq
    have hea : e ≠ a := fun z => I.away (b := false) (hf e (by simp)) hq z.symm
    have D := Draws.list (prog := X.prog) (w := X.w) (A := X.A.in1) (I.ok.hd hc) it a hne its.toArray
    have hlt : i < its.toArray.size := by
      have := (List.getElem?_eq_some_iff.mp hu).1
      simpa using this
    refine wpAny_pyNext_enum_itemD D he ⟨hit, p.isList⟩ hlt hei (by simp [hei, hea]) fun y h1 tk hy ho hst ht hsz hk => ?_
    have ey : y = u := by
      have h2 : its[i]? = some y := by simpa using hy
      rw [hu] at h2; cases h2; rfl
    subst ey
    refine ⟨_, rfl, ?_⟩
    have hTe : s.heap.objs.size ≠ e := Nat.ne_of_gt (Heap.lt_size he)
    refine wpAny_letOwnedTupleGo_enum ho fun h2 he2 hs2 => ?_
    have hs2' : Heap.SameBut e h1 h2 := hs2
    have kk : ∀ b o, b ∉ [e, it] -> s.heap.get? b = some o -> h2.get? b = some o := fun b o hb q => by
      have hb' : b ≠ e /\ b ≠ it := by simpa using hb
      exact (hs2'.2 b hb'.1).trans (hk b o hb'.1 hb'.2 q)
    have hT2 : h2.get? s.heap.objs.size = some { cls := .type "tuple", data := .seq #[.int i tk, y] } := (hs2'.2 _ hTe).trans ht
    have new : ObjOk X.prog X.w (upd H s.heap.objs.size (.tup [.int (i : Nat), x])) h2 s.heap.objs.size (.tup [.int (i : Nat), x]) :=
      ⟨by show 2 <= sizeLine; decide, [.int i tk, y], .cons ⟨tk, rfl⟩ (.cons ru .nil), ⟨_, hT2, rfl, _, rfl⟩⟩
    have hnT : H s.heap.objs.size = none := I.hok.fresh (Nat.le_refl _)
    refine ⟨.ref s.heap.objs.size, upd H s.heap.objs.size (.tup [.int (i : Nat), x]), I.turnedNew kk hf (Nat.le_refl _) new, rfl, ⟨_, x, rfl, hnT, rfl, fun ys hy' => by rw [I.list_inj hy' hq]; exact hx⟩,
      ⟨⟨_, by simpa using he2⟩, hst.1.at fun o q => (hs2'.2 it (Ne.symm hei)).trans q⟩, fun b hb => ?_⟩
    have hne2 : b ≠ s.heap.objs.size := by
      have hb' : b = e \/ b = it := by simpa using hb
      rcases hb' with z | z
      · rw [z]; exact Ne.symm hTe
      · obtain ⟨o, q, _⟩ := hit
        rw [z]; exact Nat.ne_of_lt (Heap.lt_size q)
    rw [upd_ne hne2]
    exact (hf b hb).1
  done := by
    intro X hP hw hK hc i pins s σ H E I hf st hg
    subst hP hw hK
    obtain ⟨xs, hq, hx⟩ := hg
    obtain ⟨its, rv, p, hz⟩ := I.list hq
    obtain ⟨⟨old, he⟩, hit⟩ := st
    have hl := rv.length
    -- at the end the iterator yields no more
    have hT : s.TypeIs (.ref e) "enumerate" := ⟨_, he, rfl⟩
    unfold pyNext
    refine wpAny_bind (wpAny_attempt (wpAny_callSpecial?_slot (name := Str.ofString "__next__") hT F.slot_enumerate_next
      (wpAny_call_entry F.slot_enumerate_next hT F.entry_enumerate_next ?_ (F.args_enumerate_next_1 _))))
    show wpAny _ _ (field (.ref e) 2 >>= _) _ _ _
    refine wpAny_bind (wpAny_field he rfl (x := .ref it) rfl ?_)
    refine wpAny_bind (wpAny_nextOf_list_end (A := X.A.in1) (I.ok.hd hc) hit p.isList (by simp; omega) fun h1 ex hx1 hx2 => ?_)
    obtain ⟨o, ho, hcc⟩ := hx2
    refine wpAny_bind (wpAny_isInstance (T := "StopIteration") (b := true) ⟨o, ho, hcc⟩ isSubtype_stop ?_)
    refine wpAny_pure ⟨rfl, ?_⟩
    obtain ⟨f0, f1, f2, f3, f4, f5⟩ := hf it (by simp)
    exact I.turned (t' := s.toks) (fun b o hb q => hx1 b o hb q) f0 f1 f3 f4 f5
  self := fun _ _ _ _ _ st h => by
    obtain ⟨⟨old, he⟩, _⟩ := st
    exact wpAny_pyIter_enum he h
section
variable {X : Cx} {es : List Expr} {k : Nat} {tpos : Pos}
def iEnum (K : PySem.W.Frag) (ta : TA) : TI := fun σ H R => ta σ H fun vs H1 => ∃ a, vs = [.ref a] /\ (∃ xs, SqL K H1 a xs) /\ R (Ite K a) H1
theorem pi_enum {e : Expr} {ta : TA} {p pos : Pos} (hg : Gl X "enumerate") (hm : X.mg "enumerate" = none) (ha : PA X [e] ta) (hs : starEach [e] X.env = [(false, eval e X.env)] := by rfl) :
    PI X (.Tuple es k tpos) (.Call (.Name "enumerate" p) [e] [] pos) (iEnum X.K ta) := by
  intro pins s σ H R I h
  refine Call_ (ld_blt I hg hm (u := .type "enumerate") (by rfl) (PyProof.Rows.callWith_type1 (thn (ha pos pins s σ H _ I h) fun us s1 ⟨vs, H1, I1, r1, q1⟩ => ?_) hs rfl))
  obtain ⟨a, rfl, ⟨xs, hq⟩, q⟩ := q1
  obtain ⟨u, rfl, r⟩ := vals1 r1
  obtain rfl : u = Value.ref a := r
  obtain ⟨its, rv, p, hz⟩ := I1.list hq
  refine call_enumerate_list p.isList fun h1 h2 h3 h4 h5 => ?_
  refine wpAny_pyIter_enum h2 ?_
  have I2 : Inv X pins σ H1 { s1 with heap := h1 } := I1.kept (t' := s1.toks) h5
  refine ⟨s1.heap.objs.size + 1, [s1.heap.objs.size + 1, s1.heap.objs.size], _, _, H1, rfl, I2, turn_enum a _ _ (Nat.succ_ne_self _), ⟨⟨_, h2⟩, h3⟩, fun b hb => ?_, q⟩
  have hb' : b = s1.heap.objs.size + 1 \/ b = s1.heap.objs.size := by simpa using hb
  have hle : s1.heap.objs.size <= b := by rcases hb' with z | z <;> rw [z] <;> first | exact Nat.le_add_right _ _ | exact Nat.le_refl _
  exact I1.fpOk hle (I1.hok.fresh hle)
end
theorem for_enum {K : PySem.W.Frag} {a : Addr} {xs : List V} {g : TG} {tb : TS} {D : Ends} {σ : St} {H : Hp} (Pv : Nat -> St -> Hp -> Prop) (h0 : Pv 0 σ H) (hl : ∀ i σ H, i <= xs.length -> Pv i σ H -> SqL K H a xs)
    (hs : ∀ i x T σ H, xs[i]? = some x -> H T = none -> Pv i σ H -> g (.ref T) σ (upd H T (.tup [.int (i : Nat), x])) fun σ2 H2 => tb { D with nx := Pv (i + 1), ct := Pv (i + 1), bk := D.nx } σ2 H2) (hd : ∀ σ H, Pv xs.length σ H -> D.nx σ H) :
    ∃ W : Nat -> Nat -> St -> Hp -> Prop, (∃ m, W 0 m σ H) /\ ∀ i m σ H, W i m σ H ->
      ((Ite K a).stop i H /\ D.nx σ H) \/ ((Ite K a).go i H /\ ∃ N : St -> Hp -> Prop, (∀ σ' H', N σ' H' -> ∃ m', m' < m /\ W (i + 1) m' σ' H') /\ ∀ x H', (Ite K a).yld i H x H' -> g x σ H' fun σ2 H2 => tb { D with nx := N, ct := N, bk := D.nx } σ2 H2) := by
  refine ⟨fun i m σ H => m = xs.length - i /\ i <= xs.length /\ Pv i σ H, ⟨xs.length, by simp, Nat.zero_le _, h0⟩, ?_⟩
  rintro i m σ H ⟨rfl, hi, p⟩
  have q := hl i σ H hi p
  by_cases hlt : i < xs.length
  · refine .inr ⟨⟨xs, xs[i], q, by simp [hlt]⟩, Pv (i + 1), fun σ' H' p' => ⟨xs.length - (i + 1), by omega, rfl, hlt, p'⟩, fun x H' y => ?_⟩
    obtain ⟨T, v, e1, e2, e3, y⟩ := y
    subst e1 e3
    exact hs i v T σ _ (y xs q) e2 p
  · have e : i = xs.length := by omega
    subst e
    exact .inl ⟨⟨xs, q, Nat.le_refl _⟩, hd σ H p⟩
end L2
namespace L2
open PySem PySem.Spec PyProof.Rows
def SeqAt (h : Heap) (b : Bool) (l : Addr) (xs : Array Value) : Prop := bif b then h.IsTuple l xs else h.IsList l xs
def SItAt (h : Heap) (b : Bool) (it l : Addr) (i : Nat) : Prop := bif b then h.IsTupleIter it l i else h.IsListIter it l i
def itObj (b : Bool) (l : Addr) : Obj := { cls := .type (bif b then "tuple_iterator" else "list_iterator"), data := .fields #[.ref l, .int 0 0] }
theorem SeqAt.but {h h' : Heap} {b : Bool} {l c : Addr} {xs : Array Value} (x : SeqAt h b l xs) (e : Heap.ExtBut c h h') (n : l ≠ c) : SeqAt h' b l xs := by
  cases b
  · exact Heap.IsList.extBut x e n
  · exact Heap.IsTuple.extBut x e n
theorem SItAt.but {h h' : Heap} {b : Bool} {it l c : Addr} {i : Nat} (x : SItAt h b it l i) (e : Heap.ExtBut c h h') (n : it ≠ c) : SItAt h' b it l i := by
  cases b
  · exact Heap.IsListIter.extBut x e n
  · exact Heap.IsTupleIter.extBut x e n
theorem SItAt.keep {h h' : Heap} {b : Bool} {it l : Addr} {i : Nat} (x : SItAt h b it l i) (k : ∀ o, h.get? it = some o -> h'.get? it = some o) : SItAt h' b it l i := by
  cases b
  · obtain ⟨o, e, r⟩ := (show h.IsListIter it l i from x); exact ⟨o, k o e, r⟩
  · obtain ⟨o, e, r⟩ := (show h.IsTupleIter it l i from x); exact ⟨o, k o e, r⟩
theorem SItAt.there {h : Heap} {b : Bool} {it l : Addr} {i : Nat} (x : SItAt h b it l i) : ∃ o, h.get? it = some o /\ ∀ v, o.data ≠ .cell v := by
  cases b
  · obtain ⟨o, e, c, d⟩ := (show h.IsListIter it l i from x); exact ⟨o, e, fun v z => by rw [d] at z; cases z⟩
  · obtain ⟨o, e, c, d⟩ := (show h.IsTupleIter it l i from x); exact ⟨o, e, fun v z => by rw [d] at z; cases z⟩
section
variable {prog : Program} {w : World} {A : Around} {E : Value -> Shared -> Prop} {s : Shared}
theorem seq_iter {b : Bool} {l : Addr} {xs : Array Value} {Q : Value -> Shared -> Prop} (hl : SeqAt s.heap b l xs) (hQ : Q (.ref s.heap.objs.size) { s with heap := s.heap.push (itObj b l) }) : wpAny (model prog w) A (pyIter (.ref l)) Q E s := by
  cases b
  · exact wpAny_pyIter_list hl hQ
  · exact wpAny_pyIter_tuple hl hQ
theorem tup_draw {it t : Addr} {i : Nat} {its : Array Value} {x : Value} {Q : Value -> Shared -> Prop} (hit : s.heap.IsTupleIter it t i) (ht : s.heap.IsTuple t its) (hx : its[i]? = some x)
    (hQ : ∀ h1, h1.IsTupleIter it t (i + 1) -> Heap.SameBut it s.heap h1 -> Q x { s with heap := h1 }) : wpAny (model prog w) A (Builtin.SmallTypes.nextOf (.ref it)) Q E s := by
  obtain ⟨ob, hob, hcl, hdt⟩ := id hit
  obtain ⟨ot, hot, _, nt, hds⟩ := ht
  unfold Builtin.SmallTypes.nextOf
  refine wpAny_bind (wpAny_callSpecial?_slot (name := Str.ofString "__next__") hit.typeIs F.slot_tuple_iterator_next (wpAny_call_entry F.slot_tuple_iterator_next hit.typeIs F.entry_tuple_iterator_next ?_ (F.args_tuple_iterator_next_1 _)))
  show wpAny _ _ (field (.ref it) 0 >>= _) _ _ _
  refine wpAny_bind (wpAny_field hob hdt (x := .ref t) rfl ?_)
  show wpAny _ _ (if (Value.ref t == Value.none) = true then _ else _) _ _ _
  rw [if_neg (by simp)]
  show wpAny _ _ (field (.ref it) 1 >>= _) _ _ _
  refine wpAny_bind (wpAny_field hob hdt (x := .int i 0) rfl ?_)
  show wpAny _ _ (seqItems? (.ref t) >>= _) _ _ _
  refine wpAny_bind (wpAny_seqItems hot hds ?_)
  simp only [Int.toNat_natCast, hx]
  refine wpAny_bind (wpAny_setField hob hdt (by simp) (wpAny_pure ⟨x, rfl, wpAny_pure (hQ _ ⟨_, Heap.get?_update_self _ hob (Obj.isFreed_of_fields (Obj.data_mapFields hdt _)), (Obj.cls_mapFields ..).trans hcl, ?_⟩ (Heap.SameBut.update ..))⟩))
  rw [Obj.data_mapFields hdt]; simp [rawInt]
theorem tup_drawn {it t : Addr} {i : Nat} {its : Array Value} {Q : Value -> Shared -> Prop} (hh : A.handled = none) (hit : s.heap.IsTupleIter it t i) (ht : s.heap.IsTuple t its) (hx : its[i]? = none)
    (hE : ∀ h1 e, Heap.ExtBut it s.heap h1 -> (∃ o, h1.get? e = some o /\ o.cls = .type "StopIteration") -> E (.ref e) { s with heap := h1 }) : wpAny (model prog w) A (Builtin.SmallTypes.nextOf (.ref it)) Q E s := by
  obtain ⟨ob, hob, hcl, hdt⟩ := id hit
  obtain ⟨ot, hot, _, nt, hds⟩ := ht
  unfold Builtin.SmallTypes.nextOf
  refine wpAny_bind (wpAny_callSpecial?_slot (name := Str.ofString "__next__") hit.typeIs F.slot_tuple_iterator_next (wpAny_call_entry F.slot_tuple_iterator_next hit.typeIs F.entry_tuple_iterator_next ?_ (F.args_tuple_iterator_next_1 _)))
  show wpAny _ _ (field (.ref it) 0 >>= _) _ _ _
  refine wpAny_bind (wpAny_field hob hdt (x := .ref t) rfl ?_)
  show wpAny _ _ (if (Value.ref t == Value.none) = true then _ else _) _ _ _
  rw [if_neg (by simp)]
  show wpAny _ _ (field (.ref it) 1 >>= _) _ _ _
  refine wpAny_bind (wpAny_field hob hdt (x := .int i 0) rfl ?_)
  show wpAny _ _ (seqItems? (.ref t) >>= _) _ _ _
  refine wpAny_bind (wpAny_seqItems hot hds ?_)
  simp only [Int.toNat_natCast, hx]
  refine wpAny_bind (wpAny_rule (wpAny_bind (wpAny_setField hob hdt (by simp) ?_)))
  show wpAny _ _ (newExc (.type "StopIteration") [] >>= _) _ _ _
  refine wpAny_bind ?_
  simp only [newExc, newTuple]
  refine wpAny_bind (wpAny_newObj_type ?_ (by size_fits))
  refine wpAny_bind (m := firstArgMember _ _) (wpAny_of_eq (a := Value.none) (by first | rfl | (simp only [firstArgMember]; rfl)) (wpAny_newObj_type ?_ (by size_fits)))
  simp only [raiseNew]
  refine wpAny_bind (wpAny_handled ?_)
  first | rw [show A.in1.handled = none from hh] | rw [hh]
  exact wpAny_bind (wpAny_pure (wpAny_throw (hE _ _ (((Heap.SameBut.update ..).extBut.push _).push _) ⟨_, Heap.get?_push_size _ rfl, rfl⟩)))
theorem seq_draw {b : Bool} {it l : Addr} {i : Nat} {xs : Array Value} {x : Value} {Q : Value -> Shared -> Prop} (hit : SItAt s.heap b it l i) (hl : SeqAt s.heap b l xs) (hx : xs[i]? = some x)
    (hQ : ∀ h1, SItAt h1 b it l (i + 1) -> Heap.SameBut it s.heap h1 -> Q x { s with heap := h1 }) : wpAny (model prog w) A (Builtin.SmallTypes.nextOf (.ref it)) Q E s := by
  cases b
  · exact wpAny_nextOf_list_item hit hl hx hQ
  · exact tup_draw hit hl hx hQ
theorem seq_drawn {b : Bool} {it l : Addr} {i : Nat} {xs : Array Value} {Q : Value -> Shared -> Prop} (hh : A.handled = none) (hit : SItAt s.heap b it l i) (hl : SeqAt s.heap b l xs) (hx : xs[i]? = none)
    (hE : ∀ h1 e, Heap.ExtBut it s.heap h1 -> (∃ o, h1.get? e = some o /\ o.cls = .type "StopIteration") -> E (.ref e) { s with heap := h1 }) : wpAny (model prog w) A (Builtin.SmallTypes.nextOf (.ref it)) Q E s := by
  cases b
  · exact wpAny_nextOf_list_end hh hit hl hx hE
  · exact tup_drawn hh hit hl hx hE
structure ZA (z TI TO i1 i2 : Addr) : Prop where
  a1 : TI ≠ z
  a2 : TO ≠ z
  a3 : i1 ≠ z
  a4 : i2 ≠ z
  a5 : TI ≠ TO
  a6 : TI ≠ i1
  a7 : TI ≠ i2
  a8 : TO ≠ i1
  a9 : TO ≠ i2
  a0 : i1 ≠ i2
def Off (z TI TO i1 i2 l : Addr) : Prop := l ≠ z /\ l ≠ TO /\ l ≠ i1 /\ l ≠ i2
theorem zipN_item {b1 b2 : Bool} {z TI TO i1 i2 l1 l2 : Addr} {k : Nat} {xs ys : Array Value} {x y p q : Value} {Q : Value -> Shared -> Prop} (D : ZA z TI TO i1 i2) (f1 : Off z TI TO i1 i2 l1) (f2 : Off z TI TO i1 i2 l2)
    (hz : IsZip s.heap z TI TO .none) (hI : IsPair s.heap TI (.ref i1) (.ref i2)) (hO : IsPair s.heap TO p q) (h1 : SItAt s.heap b1 i1 l1 k) (h2 : SItAt s.heap b2 i2 l2 k) (hl1 : SeqAt s.heap b1 l1 xs) (hl2 : SeqAt s.heap b2 l2 ys) (hx : xs[k]? = some x) (hy : ys[k]? = some y)
    (hQ : ∀ g, IsZip g z TI TO (rawInt s.heap.objs.size) -> IsPair g TO x y -> SItAt g b1 i1 l1 (k + 1) -> SItAt g b2 i2 l2 (k + 1) -> IsPair g s.heap.objs.size x y ->
      (∀ c o, c ≠ z -> c ≠ TO -> c ≠ i1 -> c ≠ i2 -> s.heap.get? c = some o -> g.get? c = some o) -> Q (.ref s.heap.objs.size) { s with heap := g }) :
    wpAny (model prog w) A (Builtin.«zip.__next__» ⟨[.ref z], []⟩) (fun fin s1 => ∃ v, fin = .done (.ret v) /\ Q v s1) E s := by
  show wpAny _ _ (field (.ref z) 2 >>= _) _ _ _
  refine wpAny_bind (wpAny_field hz rfl (x := .bool false) rfl ?_)
  show wpAny _ _ (field (.ref z) 3 >>= _) _ _ _
  refine wpAny_bind (wpAny_field hz rfl (x := .ref TI) rfl (wpAny_bind (wpAny_seqItems hI rfl ?_)))
  show wpAny _ _ (Builtin.SmallTypes.ownedTupleIsFree (.ref z) >>= _) _ _ _
  refine wpAny_bind ?_
  unfold Builtin.SmallTypes.ownedTupleIsFree
  refine wpAny_bind (wpAny_field hz rfl (x := .none) rfl (wpAny_pure ?_))
  simp only [if_true]
  refine wpAny_bind (wpAny_rule (wpAny_bind (wpAny_field hz rfl (x := .ref TO) rfl (wpAny_bind (wpAny_setField_rec hz (by simp) fun g1 z1 e1 => ?_)))))
  replace z1 : IsZip g1 z TI TO .ellipsis := z1
  refine wpAny_bind ?_
  simp only [List.zipIdx_cons, List.zipIdx_nil, List.forIn_cons, List.forIn_nil]
  refine wpAny_bind (wpAny_bind (wpAny_onRaise ?_))
  show wpAny _ _ (Builtin.SmallTypes.nextOf (.ref i1) >>= _) _ _ _
  refine wpAny_bind (seq_draw (h1.but e1.extBut D.a3) (hl1.but e1.extBut f1.1) hx fun g2 j2 e2 => wpAny_pure ?_)
  have o2 : IsPair g2 TO p q := e2.extBut _ _ D.a8 (e1.extBut _ _ D.a2 hO)
  refine wpAny_bind (wpAny_seqItems o2 rfl (wpAny_bind (wpAny_updateSeq_pair o2 fun g3 o3 e3 => ?_)))
  replace o3 : IsPair g3 TO x q := o3
  refine wpAny_bind (wpAny_letGo (wpAny_pure (wpAny_bind (wpAny_bind (wpAny_onRaise ?_)))))
  show wpAny _ _ (Builtin.SmallTypes.nextOf (.ref i2) >>= _) _ _ _
  refine wpAny_bind (seq_draw (((h2.but e1.extBut D.a4).but e2.extBut D.a0.symm).but e3.extBut D.a9.symm) (((hl2.but e1.extBut f2.1).but e2.extBut f2.2.2.1).but e3.extBut f2.2.1) hy fun g4 j4 e4 => wpAny_pure ?_)
  have o4 : IsPair g4 TO x q := e4.extBut _ _ D.a9 o3
  refine wpAny_bind (wpAny_seqItems o4 rfl (wpAny_bind (wpAny_updateSeq_pair o4 fun g5 o5 e5 => ?_)))
  replace o5 : IsPair g5 TO x y := o5
  refine wpAny_bind (wpAny_letGo (wpAny_pure (wpAny_pure (wpAny_bind (wpAny_seqItems o5 rfl (wpAny_bind (wpAny_newTuple ?_)))))))
  have sz : g5.objs.size = s.heap.objs.size := by rw [e5.1, e4.1, e3.1, e2.1, e1.1]
  have z5 : IsZip g5 z TI TO .ellipsis := e5.extBut _ _ D.a2.symm (e4.extBut _ _ D.a4.symm (e3.extBut _ _ D.a2.symm (e2.extBut _ _ D.a3.symm z1)))
  have k5 : ∀ c o, c ≠ z -> c ≠ TO -> c ≠ i1 -> c ≠ i2 -> s.heap.get? c = some o -> g5.get? c = some o := fun c o c1 c2 c3 c4 e => e5.extBut _ _ c2 (e4.extBut _ _ c4 (e3.extBut _ _ c2 (e2.extBut _ _ c3 (e1.extBut _ _ c1 e))))
  have j5 : SItAt g5 b1 i1 l1 (k + 1) := ((j2.but e3.extBut D.a8.symm).but e4.extBut D.a0).but e5.extBut D.a8.symm
  have j6 : SItAt g5 b2 i2 l2 (k + 1) := j4.but e5.extBut D.a9.symm
  have lz : z < g5.objs.size := Heap.lt_size z5
  show wpAny _ _ (Builtin.SmallTypes.ownedTupleHandOut (.ref z) (.ref g5.objs.size) >>= _) _ _ _
  refine wpAny_bind ?_
  unfold Builtin.SmallTypes.ownedTupleHandOut
  have z6 : IsZip (g5.push { cls := .type "tuple", data := .seq #[x, y] }) z TI TO .ellipsis := Heap.get?_push_of_some _ z5
  refine wpAny_bind (wpAny_setField_rec z6 (by simp) fun g7 z7 e7 => ?_)
  replace z7 : IsZip g7 z TI TO (rawInt g5.objs.size) := z7
  refine wpAny_setField_rec z7 (by simp) fun g8 z8 e8 => ?_
  replace z8 : IsZip g8 z TI TO (rawInt g5.objs.size) := z8
  have up : ∀ c o, c ≠ z -> g5.get? c = some o -> g8.get? c = some o := fun c o c1 e => e8.extBut _ _ c1 (e7.extBut _ _ c1 (Heap.get?_push_of_some _ e))
  have t8 : IsPair g8 g5.objs.size x y := e8.extBut _ _ (Nat.ne_of_gt lz) (e7.extBut _ _ (Nat.ne_of_gt lz) (Heap.get?_push_size _ rfl))
  rw [sz] at z8 t8
  refine wpAny_pure ⟨_, rfl, ?_⟩
  show Q (.ref g5.objs.size) _
  rw [sz]
  exact hQ g8 z8 (up _ _ D.a2 o5) (j5.keep fun o e => up _ o D.a3 e) (j6.keep fun o e => up _ o D.a4 e) t8 fun c o c1 c2 c3 c4 e => up c o c1 (k5 c o c1 c2 c3 c4 e)
theorem zipN_end {b1 b2 : Bool} {z TI TO i1 i2 l1 l2 : Addr} {k : Nat} {xs ys : Array Value} {p q : Value} {Q : Fin -> Shared -> Prop} (hh : A.handled = none) (D : ZA z TI TO i1 i2) (f1 : Off z TI TO i1 i2 l1) (f2 : Off z TI TO i1 i2 l2)
    (hz : IsZip s.heap z TI TO .none) (hI : IsPair s.heap TI (.ref i1) (.ref i2)) (hO : IsPair s.heap TO p q) (h1 : SItAt s.heap b1 i1 l1 k) (h2 : SItAt s.heap b2 i2 l2 k) (hl1 : SeqAt s.heap b1 l1 xs) (hl2 : SeqAt s.heap b2 l2 ys) (he : xs[k]? = none \/ ys[k]? = none)
    (hE : ∀ g e, (∀ c o, c ≠ z -> c ≠ TO -> c ≠ i1 -> c ≠ i2 -> s.heap.get? c = some o -> g.get? c = some o) -> (∃ o, g.get? e = some o /\ o.cls = .type "StopIteration") -> E (.ref e) { s with heap := g }) :
    wpAny (model prog w) A (Builtin.«zip.__next__» ⟨[.ref z], []⟩) Q E s := by
  show wpAny _ _ (field (.ref z) 2 >>= _) _ _ _
  refine wpAny_bind (wpAny_field hz rfl (x := .bool false) rfl ?_)
  show wpAny _ _ (field (.ref z) 3 >>= _) _ _ _
  refine wpAny_bind (wpAny_field hz rfl (x := .ref TI) rfl (wpAny_bind (wpAny_seqItems hI rfl ?_)))
  show wpAny _ _ (Builtin.SmallTypes.ownedTupleIsFree (.ref z) >>= _) _ _ _
  refine wpAny_bind ?_
  unfold Builtin.SmallTypes.ownedTupleIsFree
  refine wpAny_bind (wpAny_field hz rfl (x := .none) rfl (wpAny_pure ?_))
  simp only [if_true]
  refine wpAny_bind (wpAny_rule (wpAny_bind (wpAny_field hz rfl (x := .ref TO) rfl (wpAny_bind (wpAny_setField_rec hz (by simp) fun g1 z1 e1 => ?_)))))
  replace z1 : IsZip g1 z TI TO .ellipsis := z1
  refine wpAny_bind ?_
  simp only [List.zipIdx_cons, List.zipIdx_nil, List.forIn_cons, List.forIn_nil]
  refine wpAny_bind (wpAny_bind (wpAny_onRaise ?_))
  show wpAny _ _ (Builtin.SmallTypes.nextOf (.ref i1) >>= _) _ _ _
  cases hx : xs[k]? with
  | none =>
    refine wpAny_bind (seq_drawn hh (h1.but e1.extBut D.a3) (hl1.but e1.extBut f1.1) hx fun g2 e e2 hs => ?_)
    obtain ⟨oe, hoe, hce⟩ := hs
    have z2 : IsZip g2 z TI TO .ellipsis := e2 _ _ D.a3.symm z1
    have ne : e ≠ z := fun x => by subst x; rw [z2] at hoe; cases hoe; simp at hce
    exact wpAny_setField_rec z2 (by simp) fun g3 _ e3 => hE g3 e (fun c o c1 _ c3 _ x => e3.extBut _ _ c1 (e2 _ _ c3 (e1.extBut _ _ c1 x))) ⟨oe, e3.extBut _ _ ne hoe, hce⟩
  | some x =>
    have hy : ys[k]? = none := by
      rcases he with h | h
      · rw [hx] at h; cases h
      · exact h
    refine wpAny_bind (seq_draw (h1.but e1.extBut D.a3) (hl1.but e1.extBut f1.1) hx fun g2 j2 e2 => wpAny_pure ?_)
    have o2 : IsPair g2 TO p q := e2.extBut _ _ D.a8 (e1.extBut _ _ D.a2 hO)
    refine wpAny_bind (wpAny_seqItems o2 rfl (wpAny_bind (wpAny_updateSeq_pair o2 fun g3 o3 e3 => ?_)))
    refine wpAny_bind (wpAny_letGo (wpAny_pure (wpAny_bind (wpAny_bind (wpAny_onRaise ?_)))))
    show wpAny _ _ (Builtin.SmallTypes.nextOf (.ref i2) >>= _) _ _ _
    refine wpAny_bind (seq_drawn hh (((h2.but e1.extBut D.a4).but e2.extBut D.a0.symm).but e3.extBut D.a9.symm) (((hl2.but e1.extBut f2.1).but e2.extBut f2.2.2.1).but e3.extBut f2.2.1) hy fun g4 e e4 hs => ?_)
    obtain ⟨oe, hoe, hce⟩ := hs
    have z4 : IsZip g4 z TI TO .ellipsis := e4 _ _ D.a4.symm (e3.extBut _ _ D.a2.symm (e2.extBut _ _ D.a3.symm z1))
    have ne : e ≠ z := fun x => by subst x; rw [z4] at hoe; cases hoe; simp at hce
    exact wpAny_setField_rec z4 (by simp) fun g5 _ e5 => hE g5 e (fun c o c1 c2 c3 c4 x => e5.extBut _ _ c1 (e4 _ _ c4 (e3.extBut _ _ c2 (e2.extBut _ _ c3 (e1.extBut _ _ c1 x))))) ⟨oe, e5.extBut _ _ ne hoe, hce⟩
end
abbrev zg1 (h : Heap) (b1 : Bool) (l1 : Addr) : Heap := h.push (itObj b1 l1)
abbrev zg2 (h : Heap) (b1 b2 : Bool) (l1 l2 : Addr) : Heap := (zg1 h b1 l1).push (itObj b2 l2)
abbrev zg3 (h : Heap) (b1 b2 : Bool) (l1 l2 : Addr) : Heap := (zg2 h b1 b2 l1 l2).push { cls := .type "tuple", data := .seq #[.ref h.objs.size, .ref (zg1 h b1 l1).objs.size] }
abbrev zg4 (h : Heap) (b1 b2 : Bool) (l1 l2 : Addr) : Heap := (zg3 h b1 b2 l1 l2).push { cls := .type "tuple", data := .seq #[.none, .none] }
abbrev zg5 (h : Heap) (b1 b2 : Bool) (l1 l2 : Addr) : Heap := (zg4 h b1 b2 l1 l2).push { cls := .type "zip", data := .fields #[.none, .bool false, .bool false, .ref (zg2 h b1 b2 l1 l2).objs.size, .ref (zg3 h b1 b2 l1 l2).objs.size] }
theorem SeqAt.push {h : Heap} {b : Bool} {l : Addr} {xs : Array Value} (x : SeqAt h b l xs) (o : Obj) : SeqAt (h.push o) b l xs := by
  cases b
  · exact Heap.IsList.push x o
  · exact Heap.IsTuple.push x o
theorem zipN_new (b1 b2 : Bool) (l1 l2 : Addr) (xs ys : Array Value) :
    Meets (Builtin.«zip.__new__» ⟨[.type "zip", .ref l1, .ref l2], []⟩) (fun _ R s => SeqAt s.heap b1 l1 xs /\ SeqAt s.heap b2 l2 ys /\
      R (.ok (.ret (.ref (zg4 s.heap b1 b2 l1 l2).objs.size))) { s with heap := zg5 s.heap b1 b2 l1 l2 }) :=
  .of_wp fun prog w A R s h => by
    obtain ⟨hp, g, d, tk, os⟩ := s; obtain ⟨g1, g2, h⟩ := h
    have hsub := sub_zip
    have q1 : SeqAt (Shared.heap ⟨hp, g, d, tk, os⟩) b1 l1 xs := g1
    have q2 : SeqAt (Shared.heap ⟨hp.push (itObj b1 l1), g, d, tk, os⟩) b2 l2 ys := SeqAt.push g2 _
    wp_walk using seq_iter q1, seq_iter q2
    exact ⟨_, rfl, h⟩
section
variable {prog : Program} {w : World} {A : Around} {E : Value -> Shared -> Prop} {s : Shared}
theorem call_zipN {b1 b2 : Bool} {l1 l2 : Addr} {xs ys : Array Value} {Q : Value -> Shared -> Prop} (q1 : SeqAt s.heap b1 l1 xs) (q2 : SeqAt s.heap b2 l2 ys)
    (h : ∀ g, IsZip g (s.heap.objs.size + 4) (s.heap.objs.size + 2) (s.heap.objs.size + 3) .none -> IsPair g (s.heap.objs.size + 2) (.ref s.heap.objs.size) (.ref (s.heap.objs.size + 1)) ->
      IsPair g (s.heap.objs.size + 3) .none .none -> SItAt g b1 s.heap.objs.size l1 0 -> SItAt g b2 (s.heap.objs.size + 1) l2 0 ->
      (∀ c o, s.heap.get? c = some o -> g.get? c = some o) -> Q (.ref (s.heap.objs.size + 4)) { s with heap := g }) :
    wpAny (model prog w) A (call (.type "zip") [.ref l1, .ref l2]) Q E s := by
  refine callType_new F.called_zip (by decide) (F.typeCall_zip_2 _ _) (F.newCall_zip_2 _ _) (fun obj => F.args_object_init_3 obj _ _) F.entry_zip_new (zipN_new b1 b2 l1 l2 xs ys) ⟨q1, q2, ?_⟩
  have y1 : (zg1 s.heap b1 l1).objs.size = s.heap.objs.size + 1 := Heap.size_push ..
  have y2 : (zg2 s.heap b1 b2 l1 l2).objs.size = s.heap.objs.size + 2 := by rw [Heap.size_push, y1]
  have y3 : (zg3 s.heap b1 b2 l1 l2).objs.size = s.heap.objs.size + 3 := by rw [Heap.size_push, y2]
  have y4 : (zg4 s.heap b1 b2 l1 l2).objs.size = s.heap.objs.size + 4 := by rw [Heap.size_push, y3]
  have r5 : (zg5 s.heap b1 b2 l1 l2).get? (zg4 s.heap b1 b2 l1 l2).objs.size = some _ := Heap.get?_push_size _ rfl
  have r4 : (zg5 s.heap b1 b2 l1 l2).get? (zg3 s.heap b1 b2 l1 l2).objs.size = some _ := Heap.get?_push_of_some _ (Heap.get?_push_size _ rfl)
  have r3 : (zg5 s.heap b1 b2 l1 l2).get? (zg2 s.heap b1 b2 l1 l2).objs.size = some _ := Heap.get?_push_of_some _ (Heap.get?_push_of_some _ (Heap.get?_push_size _ rfl))
  have r2 : (zg5 s.heap b1 b2 l1 l2).get? (zg1 s.heap b1 l1).objs.size = some (itObj b2 l2) := Heap.get?_push_of_some _ (Heap.get?_push_of_some _ (Heap.get?_push_of_some _ (Heap.get?_push_size _ (by cases b2 <;> rfl))))
  have r1 : (zg5 s.heap b1 b2 l1 l2).get? s.heap.objs.size = some (itObj b1 l1) := Heap.get?_push_of_some _ (Heap.get?_push_of_some _ (Heap.get?_push_of_some _ (Heap.get?_push_of_some _ (Heap.get?_push_size _ (by cases b1 <;> rfl)))))
  show _ /\ _
  rw [y2, y3, y4] at r5
  rw [y1, y2] at r3
  rw [y3] at r4
  rw [y1] at r2
  rw [y4]
  refine ⟨⟨_, r5, rfl⟩, h _ r5 r3 r4 ?_ ?_ fun c o x => Heap.get?_push_of_some _ (Heap.get?_push_of_some _ (Heap.get?_push_of_some _ (Heap.get?_push_of_some _ (Heap.get?_push_of_some _ x))))⟩
  · cases b1
    · exact (show Heap.IsListIter _ _ _ _ from ⟨_, r1, rfl, rfl⟩)
    · exact (show Heap.IsTupleIter _ _ _ _ from ⟨_, r1, rfl, rfl⟩)
  · cases b2
    · exact (show Heap.IsListIter _ _ _ _ from ⟨_, r2, rfl, rfl⟩)
    · exact (show Heap.IsTupleIter _ _ _ _ from ⟨_, r2, rfl, rfl⟩)
end
section
variable {X : Cx} {pins : List (Addr × Obj)} {σ : St} {H : Hp} {s : Shared} {a c : Addr} {xs ys : List V} {b : Bool}
theorem Inv.seqB (I : Inv X pins σ H s) (h : SqB X.K b H a xs) : ∃ its : List Value, Vals xs its /\ SeqAt s.heap b a its.toArray := by
  cases b
  · obtain ⟨its, r, p, _⟩ := I.list (show SqL X.K H a xs from h)
    exact ⟨its, r, p.isList⟩
  · obtain ⟨its, r, p, _⟩ := I.tuple (show SqT X.K H a xs from h)
    exact ⟨its, r, p⟩
theorem Inv.seqB_inj (I : Inv X pins σ H s) (h : SqB X.K b H a xs) (h' : SqB X.K b H a ys) : xs = ys := by
  cases b
  · exact I.list_inj h h'
  · exact I.tuple_inj h h'
end
def Itz (K : PySem.W.Frag) (b1 b2 : Bool) (a1 a2 : Addr) : It :=
  ⟨fun i H => ∃ xs ys x y, SqB K b1 H a1 xs /\ SqB K b2 H a2 ys /\ xs[i]? = some x /\ ys[i]? = some y,
   fun i H x H' => ∃ T v u, x = .ref T /\ H T = none /\ H' = upd H T (.tup [v, u]) /\ (∀ xs, SqB K b1 H a1 xs -> xs[i]? = some v) /\ ∀ ys, SqB K b2 H a2 ys -> ys[i]? = some u,
   fun i H => ∃ xs ys, SqB K b1 H a1 xs /\ SqB K b2 H a2 ys /\ (xs.length <= i \/ ys.length <= i)⟩
theorem turn_zip {P : Program} {w : World} {K : PySem.W.Frag} {es : List Expr} {k : Nat} {pos : Pos} (b1 b2 : Bool) (a1 a2 z TI TO i1 i2 : Addr) (D : ZA z TI TO i1 i2) :
    Turn P w K (.Tuple es k pos) (Itz K b1 b2 a1 a2) [z, TI, TO, i1, i2] z (fun i h => IsZip h z TI TO .none /\ IsPair h TI (.ref i1) (.ref i2) /\ (∃ p q, IsPair h TO p q) /\ SItAt h b1 i1 a1 i /\ SItAt h b2 i2 a2 i) where
  mem := by simp
  obj := fun i h st b hb => by
    obtain ⟨h1, h2, ⟨p, q, h3⟩, h4, h5⟩ := st
    have hb' : b = z \/ b = TI \/ b = TO \/ b = i1 \/ b = i2 := by simpa using hb
    rcases hb' with e | e | e | e | e
    · subst e; exact ⟨_, h1, fun v z => by
        have z' : Data.fields _ = Data.cell v := z
        cases z'⟩
    · subst e; exact ⟨_, h2, fun v z => by
        have z' : Data.seq _ _ = Data.cell v := z
        cases z'⟩
    · subst e; exact ⟨_, h3, fun v z => by
        have z' : Data.seq _ _ = Data.cell v := z
        cases z'⟩
    · subst e; exact h4.there
    · subst e; exact h5.there
  keep := fun i h h' st kk => by
    obtain ⟨h1, h2, ⟨p, q, h3⟩, h4, h5⟩ := st
    exact ⟨kk z (by simp) _ h1, kk TI (by simp) _ h2, ⟨p, q, kk TO (by simp) _ h3⟩, h4.keep fun o e => kk i1 (by simp) o e, h5.keep fun o e => kk i2 (by simp) o e⟩
  item := by
    intro X hP hw hK hc i pins s σ H E I hf st hg
    subst hP hw hK
    obtain ⟨xs, ys, x, y, q1, q2, hx, hy⟩ := hg
    obtain ⟨h1, h2, ⟨p, q, h3⟩, h4, h5⟩ := st
    obtain ⟨its, rv, p1⟩ := I.seqB q1
    obtain ⟨jts, rw', p2⟩ := I.seqB q2
    obtain ⟨u, hu, ru⟩ := rv.get hx
    obtain ⟨v, hv, rv2⟩ := rw'.get hy
    have off : ∀ {b : Bool} {a : Addr} {zs : List V}, SqB X.K b H a zs -> Off z TI TO i1 i2 a := fun hq =>
      ⟨I.away (hf z (by simp)) hq, I.away (hf TO (by simp)) hq, I.away (hf i1 (by simp)) hq, I.away (hf i2 (by simp)) hq⟩
    have hT : s.TypeIs (.ref z) "zip" := ⟨_, h1, rfl⟩
    unfold pyNext
    refine wpAny_bind (wpAny_attempt (wpAny_callSpecial?_slot (name := Str.ofString "__next__") hT F.slot_zip_next (wpAny_call_entry F.slot_zip_next hT F.entry_zip_next (zipN_item D (off q1) (off q2) h1 h2 h3 h4 h5 p1 p2 (by simpa using hu) (by simpa using hv) fun g y1 y2 y3 y4 y5 y6 => ?_) (F.args_zip_next_1 _))))
    refine wpAny_pure ⟨_, rfl, ?_⟩
    have lt : ∀ {c o}, s.heap.get? c = some o -> s.heap.objs.size ≠ c := fun e => Nat.ne_of_gt (Heap.lt_size e)
    refine wpAny_letOwnedTupleGo_zip y1 fun g2 z2 e2 => ?_
    have e2' : Heap.SameBut z g g2 := e2
    have kk : ∀ b o, b ∉ [z, TI, TO, i1, i2] -> s.heap.get? b = some o -> g2.get? b = some o := fun b o hb q => by
      have hb' : b ≠ z /\ b ≠ TI /\ b ≠ TO /\ b ≠ i1 /\ b ≠ i2 := by simpa using hb
      exact e2'.extBut _ _ hb'.1 (y6 b o hb'.1 hb'.2.2.1 hb'.2.2.2.1 hb'.2.2.2.2 q)
    have hT2 : g2.get? s.heap.objs.size = some { cls := .type "tuple", data := .seq #[u, v] } := e2'.extBut _ _ (lt h1) y5
    have new : ObjOk X.prog X.w (upd H s.heap.objs.size (.tup [x, y])) g2 s.heap.objs.size (.tup [x, y]) := ⟨by show 2 <= sizeLine; decide, [u, v], .cons ru (.cons rv2 .nil), ⟨_, hT2, rfl, _, rfl⟩⟩
    have hnT : H s.heap.objs.size = none := I.hok.fresh (Nat.le_refl _)
    refine ⟨.ref s.heap.objs.size, upd H s.heap.objs.size (.tup [x, y]), I.turnedNew kk hf (Nat.le_refl _) new, rfl, ⟨_, x, y, rfl, hnT, rfl, fun zs hz => by rw [I.seqB_inj hz q1]; exact hx, fun zs hz => by rw [I.seqB_inj hz q2]; exact hy⟩,
      ⟨z2, e2'.extBut _ _ D.a1 (y6 _ _ D.a1 D.a5 D.a6 D.a7 h2), ⟨_, _, e2'.extBut _ _ D.a2 y2⟩, y3.but e2'.extBut D.a3, y4.but e2'.extBut D.a4⟩, fun b hb => ?_⟩
    have hne : b ≠ s.heap.objs.size := by
      have hb' : b = z \/ b = TI \/ b = TO \/ b = i1 \/ b = i2 := by simpa using hb
      rcases hb' with e | e | e | e | e
      · rw [e]; exact Ne.symm (lt h1)
      · rw [e]; exact Ne.symm (lt h2)
      · rw [e]; exact Ne.symm (lt h3)
      · obtain ⟨o, q, _⟩ := h4.there; rw [e]; exact Ne.symm (lt q)
      · obtain ⟨o, q, _⟩ := h5.there; rw [e]; exact Ne.symm (lt q)
    rw [upd_ne hne]
    exact (hf b hb).1
  done := by
    intro X hP hw hK hc i pins s σ H E I hf st hg
    subst hP hw hK
    obtain ⟨xs, ys, q1, q2, hx⟩ := hg
    obtain ⟨h1, h2, ⟨p, q, h3⟩, h4, h5⟩ := st
    obtain ⟨its, rv, p1⟩ := I.seqB q1
    obtain ⟨jts, rw', p2⟩ := I.seqB q2
    have off : ∀ {b : Bool} {a : Addr} {zs : List V}, SqB X.K b H a zs -> Off z TI TO i1 i2 a := fun hq =>
      ⟨I.away (hf z (by simp)) hq, I.away (hf TO (by simp)) hq, I.away (hf i1 (by simp)) hq, I.away (hf i2 (by simp)) hq⟩
    have hT : s.TypeIs (.ref z) "zip" := ⟨_, h1, rfl⟩
    have l1 := rv.length
    have l2 := rw'.length
    unfold pyNext
    refine wpAny_bind (wpAny_attempt (wpAny_callSpecial?_slot (name := Str.ofString "__next__") hT F.slot_zip_next (wpAny_call_entry F.slot_zip_next hT F.entry_zip_next
      (zipN_end (A := X.A.in1) (I.ok.hd hc) D (off q1) (off q2) h1 h2 h3 h4 h5 p1 p2 (by simp; omega) fun g e kk he => ?_) (F.args_zip_next_1 _))))
    obtain ⟨o, ho, hcc⟩ := he
    refine wpAny_bind (wpAny_isInstance (T := "StopIteration") (b := true) ⟨o, ho, hcc⟩ isSubtype_stop ?_)
    refine wpAny_pure ⟨rfl, ?_⟩
    have k2 : ∀ b o, b ∉ [z, TO, i1, i2] -> s.heap.get? b = some o -> g.get? b = some o := fun b o hb q => by
      have hb' : b ≠ z /\ b ≠ TO /\ b ≠ i1 /\ b ≠ i2 := by simpa using hb
      exact kk b o hb'.1 hb'.2.1 hb'.2.2.1 hb'.2.2.2 q
    exact I.turnedL0 (t' := s.toks) k2 fun b hb => hf b (by
      have hb' : b = z \/ b = TO \/ b = i1 \/ b = i2 := by simpa using hb
      rcases hb' with e | e | e | e <;> simp [e])
  self := fun _ _ _ _ _ st h => wpAny_pyIter_zip st.1 h
section
variable {X : Cx} {es : List Expr} {k : Nat} {tpos : Pos}
def iZip (K : PySem.W.Frag) (ta : TA) : TI := fun σ H R => ta σ H fun vs H1 => ∃ b1 b2 a1 a2, vs = [.ref a1, .ref a2] /\ (∃ xs, SqB K b1 H1 a1 xs) /\ (∃ ys, SqB K b2 H1 a2 ys) /\ R (Itz K b1 b2 a1 a2) H1
theorem pi_zip {e e' : Expr} {ta : TA} {p pos : Pos} (hg : Gl X "zip") (hm : X.mg "zip" = none) (ha : PA X [e, e'] ta) (hs : starEach [e, e'] X.env = [(false, eval e X.env), (false, eval e' X.env)] := by rfl) (hs2 : starEach [e'] X.env = [(false, eval e' X.env)] := by rfl) :
    PI X (.Tuple es k tpos) (.Call (.Name "zip" p) [e, e'] [] pos) (iZip X.K ta) := by
  intro pins s σ H R I h
  refine Call_ (ld_blt I hg hm (u := .type "zip") (by rfl) (PyProof.Rows.callWith_type1 (thn (ha pos pins s σ H _ I h) fun us s1 ⟨vs, H1, I1, r1, q1⟩ => ?_) (by rw [hs, hs2]) (by rw [hs2]; rfl)))
  obtain ⟨b1, b2, a1, a2, rfl, ⟨xs, h1⟩, ⟨ys, h2⟩, q⟩ := q1
  obtain ⟨u, u', rfl, r, r'⟩ := vals2 r1
  obtain rfl : u = Value.ref a1 := r
  obtain rfl : u' = Value.ref a2 := r'
  obtain ⟨its, rv, p1⟩ := I1.seqB h1
  obtain ⟨jts, rw', p2⟩ := I1.seqB h2
  refine call_zipN p1 p2 fun g y1 y2 y3 y4 y5 y6 => ?_
  refine wpAny_pyIter_zip y1 ?_
  have I2 : Inv X pins σ H1 { s1 with heap := g } := I1.kept (t' := s1.toks) y6
  have D : ZA (s1.heap.objs.size + 4) (s1.heap.objs.size + 2) (s1.heap.objs.size + 3) s1.heap.objs.size (s1.heap.objs.size + 1) := by
    constructor <;> (show (_ : Nat) ≠ _; omega)
  refine ⟨s1.heap.objs.size + 4, _, _, _, H1, rfl, I2, turn_zip b1 b2 a1 a2 _ _ _ _ _ D, ⟨y1, y2, ⟨_, _, y3⟩, y4, y5⟩, fun b hb => ?_, q⟩
  have hb' : b = s1.heap.objs.size + 4 \/ b = s1.heap.objs.size + 2 \/ b = s1.heap.objs.size + 3 \/ b = s1.heap.objs.size \/ b = s1.heap.objs.size + 1 := by simpa using hb
  have hle : s1.heap.objs.size <= b := by rcases hb' with z | z | z | z | z <;> rw [z] <;> first | exact Nat.le_add_right _ _ | exact Nat.le_refl _
  exact I1.fpOk hle (I1.hok.fresh hle)
end
end L2
namespace L2
open PySem PySem.Spec PyProof.Rows
def closes (env : Env) : List (Str × NameKind) -> List (Str × Addr) -> List (Str × Addr)
  | [], cs => cs
  | (n, k) :: r, cs => closes env r (if k == .free then (match env.cells.lookup n with | some c => (n, c) :: cs | none => cs) else cs)
theorem closes_mem {env : Env} : ∀ {ns : List (Str × NameKind)} {cs : List (Str × Addr)} {x : Str} {c : Addr}, (∀ y d, (y, d) ∈ cs -> env.cells.lookup y = some d) -> (x, c) ∈ closes env ns cs -> env.cells.lookup x = some c
  | [], _, _, _, h, m => h _ _ m
  | (n, k) :: r, cs, x, c, h, m => by
    unfold closes at m
    refine closes_mem (ns := r) (fun y d hm => ?_) m
    by_cases hk : (k == NameKind.free) = true
    · rw [if_pos hk] at hm
      cases e : env.cells.lookup n with
      | none => rw [e] at hm; exact h _ _ hm
      | some a =>
        rw [e] at hm
        rcases List.mem_cons.mp hm with q | q
        · cases q; exact e
        · exact h _ _ q
    · rw [if_neg hk] at hm; exact h _ _ hm
theorem closes_has {env : Env} : ∀ {ns : List (Str × NameKind)} {cs : List (Str × Addr)} {x : Str} {c : Addr}, (x, NameKind.free) ∈ ns \/ (x, c) ∈ cs -> env.cells.lookup x = some c -> (x, c) ∈ closes env ns cs
  | [], _, _, _, h, _ => h.elim (fun z => absurd z (by simp)) id
  | (n, k) :: r, cs, x, c, h, e => by
    unfold closes
    refine closes_has (ns := r) ?_ e
    rcases h with h | h
    · rcases List.mem_cons.mp h with q | q
      · cases q
        right
        rw [if_pos (by rfl), e]
        exact List.mem_cons_self
      · exact .inl q
    · right
      by_cases hk : (k == NameKind.free) = true
      · rw [if_pos hk]
        cases env.cells.lookup n with
        | none => exact h
        | some a => exact List.mem_cons_of_mem _ h
      · rw [if_neg hk]; exact h
theorem closureFor_closes {scope : Scope} {env : Env} (h : ∀ x ∈ scope.names, x.2 = .free -> ∃ c, env.cells.lookup x.1 = some c) : closureFor scope env = pure (closes env scope.names []) := by
  have all : ∀ (ns : List (Str × NameKind)) (cs : List (Str × Addr)), (∀ x ∈ ns, x.2 = .free -> ∃ c, env.cells.lookup x.1 = some c) ->
      (forIn ns cs fun (x : Str × NameKind) (r : List (Str × Addr)) => (if x.2 == .free then do let c <- cellOf env x.1; pure (ForInStep.yield ((x.1, c) :: r)) else pure (ForInStep.yield r) : Sem _)) = pure (closes env ns cs) := by
    intro ns
    induction ns with
    | nil => intro cs _; rfl
    | cons x r ih =>
      obtain ⟨n, k⟩ := x
      intro cs hx
      rw [List.forIn_cons]
      unfold closes
      by_cases hk : (k == NameKind.free) = true
      · have hk' : k = .free := by simpa using hk
        obtain ⟨c, e⟩ := hx (n, k) List.mem_cons_self hk'
        have e' : env.cells.lookup n = some c := e
        have e2 : cellOf env n = pure c := by unfold cellOf; rw [e']
        simp only [hk, if_true, e2, pure_bind, e']
        exact ih _ fun y hy => hx y (List.mem_cons_of_mem _ hy)
      · simp only [hk, Bool.false_eq_true, if_false, pure_bind]
        exact ih _ fun y hy => hx y (List.mem_cons_of_mem _ hy)
  have := all scope.names [] h
  simp only [closureFor]
  first
    | exact (bind_congr fun _ => rfl).trans (by rw [this, pure_bind])
    | (show (forIn scope.names [] _ >>= _) = _; rw [show (forIn scope.names ([] : List (Str × Addr)) _) = _ from this]; rfl)
    | (rw [this]; rfl)
    | exact this
theorem lookup_mem {x : Str} {c : Addr} : ∀ {cs : List (Str × Addr)}, cs.lookup x = some c -> (x, c) ∈ cs := fun h => PySem.mem_of_lookup h
theorem lookup_of_mem {x : Str} {c : Addr} : ∀ {cs : List (Str × Addr)}, (x, c) ∈ cs -> (∀ d, (x, d) ∈ cs -> d = c) -> cs.lookup x = some c
  | [], h, _ => absurd h (by simp)
  | (y, d) :: r, h, u => by
    rw [List.lookup_cons]
    cases e : x == y with
    | true =>
      have e' : x = y := by simpa using e
      subst e'
      simp only
      rw [u d List.mem_cons_self]
    | false =>
      simp only
      refine lookup_of_mem ?_ fun d' hd => u d' (List.mem_cons_of_mem _ hd)
      rcases List.mem_cons.mp h with q | q
      · cases q; simp at e
      · exact q
def blk (X : Cx) (scope : Scope) (NB : List Str) (C : Addr) (s : Shared) (H : Hp) (fp : List Addr) : Cx where
  prog := X.prog
  w := X.w
  K := X.K
  mg := X.mg
  base := X.base
  A := X.A
  N := NB
  s₀ := s
  H₀ := H
  env := compEnvC scope (closes X.env scope.names []) C X.env
  outer := X.stack
  stack := X.stack
  ex := fp
  fn := fun _ => false
  calm := X.calm
  pn := []
  xe := fun _ _ => False
def carry (fr : List (Option Nat)) (σ : St) : St := fr.map fun o => match o with | some j => (σ[j]?).getD none | none => none
def relS (scope sc : Scope) : Scope :=
  { scope with names := scope.names.map fun (n, k) => if (k == .free && sc.kind == .function && sc.names.lookup n == some .cell) then (n, .cell) else (n, k) }
structure BlkOk (sc : Scope) (N : List Str) (scope : Scope) (NB : List Str) (fr : List (Option Nat)) : Prop where
  kind : scope.kind = .function
  cell : ∀ y ∈ scope.names, y.2 ≠ .cell
  names : ∀ x ∈ scope.names, x.2 = .local -> scope.names.lookup x.1 = some .local
  free : ∀ x ∈ scope.names, x.2 = .free -> sc.names.lookup x.1 = some .cell \/ sc.names.lookup x.1 = some .free
  len : NB.length = fr.length
  bind : ∀ p ∈ fr.zip NB, ∀ j ∈ p.1, N[j]? = some p.2 /\ (p.2, NameKind.free) ∈ scope.names /\ ((relS scope sc).names.lookup p.2 = some .cell \/ (relS scope sc).names.lookup p.2 = some .free)
instance {sc : Scope} {N : List Str} {scope : Scope} {NB : List Str} {fr : List (Option Nat)} : Decidable (BlkOk sc N scope NB fr) :=
  decidable_of_iff ((scope.kind = .function /\ ∀ y ∈ scope.names, y.2 ≠ .cell) /\ ((∀ x ∈ scope.names, x.2 = .local -> scope.names.lookup x.1 = some .local) /\ ∀ x ∈ scope.names, x.2 = .free -> sc.names.lookup x.1 = some .cell \/ sc.names.lookup x.1 = some .free) /\
    NB.length = fr.length /\ ∀ p ∈ fr.zip NB, ∀ j ∈ p.1, N[j]? = some p.2 /\ (p.2, NameKind.free) ∈ scope.names /\ ((relS scope sc).names.lookup p.2 = some .cell \/ (relS scope sc).names.lookup p.2 = some .free))
    ⟨fun ⟨⟨a, b⟩, ⟨c, d⟩, e, f⟩ => ⟨a, b, c, d, e, f⟩, fun ⟨a, b, c, d, e, f⟩ => ⟨⟨a, b⟩, ⟨c, d⟩, e, f⟩⟩
theorem lookup_relabel_free {env : Env} {x : Str} : ∀ {names : List (Str × NameKind)} {k : NameKind}, (names.map fun (n, k) => if (k == NameKind.free && env.scope.kind == .function && env.kindOf n == some .cell) then (n, NameKind.cell) else (n, k)).lookup x = some k ->
    (k = .cell \/ k = .free) -> (∀ y ∈ names, y.2 ≠ .cell) -> (x, NameKind.free) ∈ names
  | [], k, h, _, _ => by simp at h
  | (n, k0) :: r, k, h, hk, hc => by
    have hc' : ∀ y ∈ r, y.2 ≠ .cell := fun y hy => hc y (List.mem_cons_of_mem _ hy)
    by_cases e : (x == n) = true
    · have e' : x = n := by simpa using e
      subst e'
      by_cases hc0 : (k0 == NameKind.free && env.scope.kind == .function && env.kindOf x == some .cell) = true
      · have : k0 = .free := by
          rw [Bool.and_eq_true, Bool.and_eq_true] at hc0
          simpa using hc0.1.1
        rw [this]; exact List.mem_cons_self
      · rw [List.map_cons] at h
        simp only [hc0, if_false, Bool.false_eq_true] at h
        rw [List.lookup_cons, e] at h
        have h' : k0 = k := by simpa using h
        subst h'
        rcases hk with z | z
        · exact absurd z (hc (x, k0) List.mem_cons_self)
        · rw [z]; exact List.mem_cons_self
    · have e' : (x == n) = false := by simpa using e
      rw [List.map_cons] at h
      refine List.mem_cons_of_mem _ (lookup_relabel_free (env := env) (names := r) (k := k) ?_ hk hc')
      by_cases hc0 : (k0 == NameKind.free && env.scope.kind == .function && env.kindOf n == some .cell) = true
      · simp only [hc0, if_true] at h
        rw [List.lookup_cons, e'] at h
        exact h
      · simp only [hc0, if_false, Bool.false_eq_true] at h
        rw [List.lookup_cons, e'] at h
        exact h
section
variable {X : Cx} {pins : List (Addr × Obj)} {σ : St} {H : Hp} {s : Shared} {scope : Scope} {NB : List Str} {fr : List (Option Nat)} {fp : List Addr}
theorem BlkOk.closed (B : BlkOk X.env.scope X.N scope NB fr) (I : Inv X pins σ H s) : ∀ x ∈ scope.names, x.2 = .free -> ∃ c, X.env.cells.lookup x.1 = some c := fun x hx hf => I.ok.has x.1 (B.free x hx hf)
theorem BlkOk.look (B : BlkOk X.env.scope X.N scope NB fr) (I : Inv X pins σ H s) {x : Str} (hx : (x, NameKind.free) ∈ scope.names) : ∃ c, X.env.cells.lookup x = some c /\ (closes X.env scope.names []).lookup x = some c := by
  obtain ⟨c, e⟩ := B.closed I _ hx rfl
  refine ⟨c, e, lookup_of_mem (closes_has (.inl hx) e) fun d hd => ?_⟩
  have := closes_mem (fun _ _ z => absurd z (by simp)) hd
  rw [e] at this
  exact (Option.some.inj this).symm
theorem blk_cells {x : Str} {c : Addr} (h : (closes X.env scope.names []).lookup x = some c) : X.env.cells.lookup x = some c := closes_mem (fun _ _ z => absurd z (by simp)) (lookup_mem h)
theorem blk_start {h1 : Heap} {tk : Nat} {C : Addr} {m : Str -> Option Value} (B : BlkOk X.env.scope X.N scope NB fr) (I : Inv X pins σ H s) (hf : ∀ b ∈ fp, FpOk X pins H b /\ b < s.heap.objs.size) (hC : s.heap.objs.size <= C)
    (k : ∀ b o, s.heap.get? b = some o -> h1.get? b = some o) (hn : h1.Ns C m) :
    Inv (blk X scope NB C s H fp) [] (carry fr σ) H { s with heap := h1, toks := tk } := by
  have hk : (relabel scope X.env).kind = .function := B.kind
  refine ⟨⟨I.ok.mod, hk, I.ok.glob, I.ok.blt, hC, fun x y c e1 e2 => I.ok.inj x y c (blk_cells e1) (blk_cells e2), fun x hx => ?_, fun x c hfn _ => absurd hfn (by simp [blk]), I.ok.hd, I.ok.frames, .inl rfl, fun b hb => ⟨?_, fun x c e => ?_⟩, I.bs, Nat.le_trans I.ok.bsz I.sz, fun b o e hb => ?_, fun b hb => ?_, I.stack, I.stkFree⟩,
    rfl, I.bare, Un.kept k, ⟨m, hn, fun i x v e1 e2 e3 => ?_⟩, fun x c e => ?_, I.hok.fresh hC, fun x c e => I.freeC x c (blk_cells e), fun p hp => absurd (show p ∈ ([] : List (Addr × Obj)) from hp) (by simp), I.hok.kept k, ?_⟩
  · have hx' : (relabel scope X.env).names.lookup x = some .cell \/ (relabel scope X.env).names.lookup x = some .free := hx
    have hm : (x, NameKind.free) ∈ scope.names := by
      rcases hx' with z | z
      · exact lookup_relabel_free z (.inl rfl) B.cell
      · exact lookup_relabel_free z (.inr rfl) B.cell
    obtain ⟨c, _, e⟩ := B.look I hm
    exact ⟨c, e⟩
  · exact Nat.ne_of_lt (Nat.lt_of_lt_of_le (hf b hb).2 hC)
  · exact (hf b hb).1.2.2.2.2.1 x c (blk_cells e)
  · rcases (hf b hb).1.2.2.2.1 with z | z
    · exact I.ok.noex b o e z
    · exact absurd (Nat.lt_of_lt_of_le (Heap.lt_size (I.ok.bs b o e).1) z) (Nat.lt_irrefl _)
  · intro z
    rcases List.mem_cons.mp (I.stkSub b z) with q | q
    · exact (hf b hb).1.2.1 q
    · exact (hf b hb).1.2.2.1 q
  · -- a name that is closed over
    obtain ⟨mX, hnX, hlX⟩ := I.loc
    have e2' : ∃ j, fr[i]? = some (some j) /\ σ[j]? = some (some v) := by
      unfold carry at e2
      rw [List.getElem?_map] at e2
      cases q : fr[i]? with
      | none => rw [q] at e2; cases e2
      | some o =>
        rw [q] at e2
        cases o with
        | none => simp at e2
        | some j =>
          refine ⟨j, rfl, ?_⟩
          have e2 : (σ[j]?).getD none = some v := by simpa using e2
          cases q2 : σ[j]? with
          | none => rw [q2] at e2; cases e2
          | some w => rw [q2] at e2; simp at e2; rw [e2]
    obtain ⟨j, hj, hs⟩ := e2'
    have hz : (some j, x) ∈ fr.zip NB := List.mem_of_getElem? (i := i) (by rw [List.getElem?_zip_eq_some]; exact ⟨hj, e1⟩)
    obtain ⟨hy2, hy3, kd'⟩ := B.bind _ hz j rfl
    have vis : Vis X.env.scope x := by
      rcases B.free _ hy3 rfl with z | z
      · exact .inr (.inl z)
      · exact .inr (.inr z)
    obtain ⟨u, ru, lk⟩ := hlX j x v hy2 hs vis
    refine ⟨u, ru, ?_⟩
    obtain ⟨c, ec1, ec2⟩ := B.look I hy3
    have kd : (compEnvC scope (closes X.env scope.names []) C X.env).kindOf x = some .cell \/ (compEnvC scope (closes X.env scope.names []) C X.env).kindOf x = some .free := kd'
    refine .inr ⟨kd, c, ec2, ?_⟩
    rcases lk with ⟨q1, q2⟩ | ⟨_, c', q2, q3⟩
    · exfalso
      rcases B.free _ hy3 rfl with t | t
      · rw [show X.env.kindOf x = some .cell from t] at q1; cases q1
      · rw [show X.env.kindOf x = some .free from t] at q1; cases q1
    · rw [ec1] at q2
      cases q2
      obtain ⟨o, ho, hd⟩ := q3
      exact ⟨o, k _ _ ho, hd⟩
  · obtain ⟨v, o, ho, hd⟩ := I.cell x c (blk_cells e)
    exact ⟨v, o, k _ _ ho, hd⟩
  · unfold carry
    rw [List.length_map]
    exact B.len.symm
end
section
variable {prog : Program} {w : World} {A : Around} {E : Value -> Shared -> Prop} {s : Shared}
theorem comp_turns {elt tg iter : Expr} {ifs : List Expr} {scope : Scope} {pos : Pos} {it acc : Value} {env : Env} {R : Result -> Shared -> Prop} (J : Nat -> Shared -> Prop)
    (turn : ∀ n s, J n s -> wpAny (model prog w) A (pyNext it) (fun r s1 => match r with
      | none => R (.ok .next) s1
      | some v => wpAny (model prog w) A (letOwnedTupleGo tg it v) (fun _ s2 => wpAny (model prog w) A (assign tg env v) (fun _ s3 =>
          wpAny (model prog w) A (forIn ifs true fun c r => if r = true then do let ok <- isTrue c env (eval c env); pure (ForInStep.yield ok) else pure (ForInStep.yield r)) (fun ok s4 =>
            if ok = true then wpAny (model prog w) A (eval elt env) (fun x s5 => wpAny (model prog w) A (call (.builtin "list.append") [acc, x]) (fun _ s6 => ∃ m, m < n /\ J m s6) (fun _ _ => False) s5) (fun _ _ => False) s4
            else ∃ m, m < n /\ J m s4) (fun _ _ => False) s3) (fun _ _ => False) s2) (fun _ _ => False) s1) (fun _ _ => False) s)
    (n : Nat) (h : J n s) : codeAny (model prog w) A (.compLoop (.ListComp elt [⟨tg, iter, ifs, 0⟩] scope pos) 0 it acc env) R s := by
  refine codeAny_loop rfl J (fun n s hJ => ?_) n h
  show wpAny _ A ((compTurn (.ListComp elt [⟨tg, iter, ifs, 0⟩] scope pos) 0 it acc env).onRaise _) _ _ s
  refine wpAny_noted ?_
  rw [compTurn_list]
  refine wpAny_bind (wpAny_standAt (wpAny_bind (wpAny_mono (turn n s hJ) (fun r s1 h1 => ?_) fun _ _ z => z.elim)))
  cases r with
  | none => exact wpAny_pure h1
  | some v =>
    refine wpAny_bind (wpAny_mono h1 (fun _ s2 h2 => wpAny_bind (wpAny_mono h2 (fun _ s3 h3 => wpAny_bind (wpAny_mono h3 (fun ok s4 h4 => ?_) fun _ _ z => z.elim)) fun _ _ z => z.elim)) fun _ _ z => z.elim)
    cases ok with
    | false => exact wpAny_pure ⟨rfl, h4⟩
    | true => exact wpAny_bind (wpAny_bind (wpAny_mono h4 (fun x s5 h5 => wpAny_bind (wpAny_mono h5 (fun _ s6 h6 => wpAny_pure (wpAny_pure ⟨rfl, h6⟩)) fun _ _ z => z.elim)) fun _ _ z => z.elim))
end
def Wk (σ σ2 : St) : Prop := σ2.length = σ.length /\ ∀ (i : Nat) v, σ[i]? = some (some v) -> σ2[i]? = some (some v)
def tTurns (fr : List (Option Nat)) (g : TG) (tc : TT) (te : TE) (D : Addr) (J : It) (σ : St) (H1 : Hp) (Q : VK) : Prop :=
  ∃ W : Nat -> Nat -> List V -> Hp -> Prop, (∃ m, W 0 m [] (upd H1 D (.lst []))) /\ ∀ i m ys H, W i m ys H -> H D = some (.lst ys) /\
    ((J.stop i H /\ Q (.ref D) H) \/ (J.go i H /\ ys.length < sizeLine /\ ∃ N : List V -> Hp -> Prop, (∀ ys' H', N ys' H' -> ∃ m', m' < m /\ W (i + 1) m' ys' H') /\
      ∀ x H', J.yld i H x H' -> g x (carry fr σ) H' fun σ2 H2 => Wk (carry fr σ) σ2 /\ tc σ2 H2 fun b H3 => if b = true then te σ2 H3 fun y H4 => H4 D = some (.lst ys) /\ N (ys ++ [y]) (upd H4 D (.lst (ys ++ [y]))) else N ys H3))
def tComp (fr : List (Option Nat)) (wi : TI) (g : TG) (tc : TT) (te : TE) : TE := fun σ H Q => wi σ H fun J H1 => ∀ D, H1 D = none -> tTurns fr g tc te D J σ H1 Q
def tYes : TT := fun _ H Q => Q true H
inductive PIfs (Y : Cx) : List Expr -> TT -> Prop where
  | nil : PIfs Y [] tYes
  | one {c : Expr} {t : TT} : PT Y c t -> PIfs Y [c] t
section
variable {X : Cx} {scope : Scope} {NB : List Str} {fr : List (Option Nat)} {elt tg iter : Expr} {ifs : List Expr} {pos : Pos} {wi : TI} {g : TG} {tc : TT} {te : TE}
theorem Inv.lost {pins : List (Addr × Obj)} {σ : St} {H : Hp} {s : Shared} {h' : Heap} {C : Addr} (I : Inv X pins σ H s) (hs : Heap.SameBut C s.heap h') (f : FpOk X pins H C) : Inv X pins σ H { s with heap := h' } :=
  I.turned (t' := s.toks) (fun b o hb e => (hs.2 b hb).trans e) f.1 f.2.1 f.2.2.2.1 f.2.2.2.2.1 f.2.2.2.2.2
theorem blk_run (hcalm : X.calm = true) (B : BlkOk X.env.scope X.N scope NB fr) (hg : ∀ C s H fp, PG (blk X scope NB C s H fp) tg g) (hif : ∀ C s H fp, PIfs (blk X scope NB C s H fp) ifs tc) (he : ∀ C s H fp, PE (blk X scope NB C s H fp) elt te)
    {pins : List (Addr × Obj)} {σ : St} {Q : VK} {E : Value -> Shared -> Prop} {itv : Value} {s2 : Shared} (h2 : PIE X pins σ tg (fun J H1 => ∀ D, H1 D = none -> tTurns fr g tc te D J σ H1 Q) itv s2)
    {RR : Value -> Addr -> Result -> Shared -> Prop}
    (hRR : ∀ D C H' s', Inv X pins σ H' s' -> FpOk X pins H' C -> (∃ m, s'.heap.Ns C m) -> Q (.ref D) H' -> RR (.ref D) C (.ok .next) s') :
    wpAny (model X.prog X.w) X.A (newList []) (fun acc s3 => wpAny (model X.prog X.w) X.A (newFunctionEnv scope X.env.globals (closes X.env scope.names []) [] X.env.qual none .none (some X.env)) (fun cenv s4 =>
      codeAny (model X.prog X.w) X.A (.compStart (.ListComp elt [⟨tg, iter, ifs, 0⟩] scope pos) 0 itv acc { cenv with scope := relabel scope X.env }) (RR acc cenv.locals) s4) E s3) E s2 := by
  obtain ⟨it, fp, tn, J, H2, rfl, I2, T, st2, f2, q2⟩ := h2
  refine wpAny_newObj_type ?_
  have hD : H2 s2.heap.objs.size = none := I2.hok.fresh (Nat.le_refl _)
  have I3 : Inv X pins σ (upd H2 s2.heap.objs.size (.lst [])) { s2 with heap := s2.heap.push { cls := .type "list", data := .seq ([] : List Value).toArray } } :=
    I2.laid (t' := s2.toks) (fun b u e => Heap.get?_push_of_some _ e) (Nat.le_refl _) ⟨by show 0 <= sizeLine; decide, [], 0, .nil, Heap.get?_push_size _ rfl⟩
  obtain ⟨W, ⟨m0, w0⟩, turn⟩ := q2 s2.heap.objs.size hD
  generalize hDe : s2.heap.objs.size = D at *
  generalize hH3 : upd H2 D (.lst []) = H3 at *
  generalize hg3 : s2.heap.push { cls := .type "list", data := .seq ([] : List Value).toArray } = g3 at *
  have up3 : ∀ b o, s2.heap.get? b = some o -> g3.get? b = some o := fun b o e => by rw [<- hg3]; exact Heap.get?_push_of_some _ e
  have sz3 : g3.objs.size = D + 1 := by rw [<- hg3, Heap.size_push, hDe]
  have st3 : tn 0 g3 := T.keep _ _ _ st2 fun b _ o e => up3 b o e
  have fl : ∀ b ∈ fp, b < g3.objs.size := fun b hb => by
    obtain ⟨o, e, _⟩ := T.obj _ _ st3 b hb
    exact Heap.lt_size e
  have nD : ∀ b ∈ fp, b ≠ D := fun b hb => by
    obtain ⟨o, e, _⟩ := T.obj _ _ st2 b hb
    have := Heap.lt_size e
    rw [hDe] at this
    exact Nat.ne_of_lt this
  have f3 : ∀ b ∈ fp, FpOk X pins H3 b := fun b hb => ⟨by rw [<- hH3, upd_ne (nD b hb)]; exact (f2 b hb).1, (f2 b hb).2⟩
  refine wpAny_newFunctionEnv B.cell (by intro y hy; simp at hy) (fun h1 hn1 hs1 => ?_) B.kind
  dsimp only at hn1 hs1 ⊢
  have up4 : ∀ b o, g3.get? b = some o -> h1.get? b = some o := fun b o e => hs1.extBut b o (Nat.ne_of_lt (Heap.lt_size e)) (Heap.get?_push_of_some _ e)
  have st4 : tn 0 h1 := T.keep _ _ _ st3 fun b _ o e => up4 b o e
  have J0 : Inv (blk X scope NB g3.objs.size { s2 with heap := g3 } H3 fp) [] (carry fr σ) H3 { s2 with heap := h1, toks := s2.toks + ([] : List (Str × Value)).length } :=
    blk_start (s := { s2 with heap := g3 }) (fp := fp) B I3 (fun b hb => ⟨f3 b hb, fl b hb⟩) (Nat.le_refl _) up4 hn1
  have fpY : ∀ {H' : Hp}, (∀ b ∈ fp, H' b = none) -> ∀ b ∈ fp, FpOk (blk X scope NB g3.objs.size { s2 with heap := g3 } H3 fp) [] H' b := fun hn b hb =>
    ⟨hn b hb, Nat.ne_of_lt (fl b hb), J0.ok.exfs b hb, .inl hb, fun x c e => (f3 b hb).2.2.2.2.1 x c (blk_cells e), fun p hp => absurd (show p ∈ ([] : List (Addr × Obj)) from hp) (by simp)⟩
  have back : ∀ {σ' : St} {H' : Hp} {s' : Shared}, Inv (blk X scope NB g3.objs.size { s2 with heap := g3 } H3 fp) [] σ' H' s' -> Inv X pins σ H' s' /\ FpOk X pins H' g3.objs.size /\ ∃ m, s'.heap.Ns g3.objs.size m := fun {σ' H' s'} K => by
    refine ⟨I3.call' (ch := fp) K.os K.base K.hok K.bare fun b hb => ⟨(f3 b hb).2.2.2.1, (f3 b hb).2.1, (f3 b hb).2.2.2.2.1, (f3 b hb).2.2.2.2.2⟩, ?_, ?_⟩
    · exact I3.fpOk (Nat.le_refl _) K.free
    · obtain ⟨m, hm, _⟩ := K.loc
      exact ⟨m, hm⟩
  have loop : ∀ s3 : Shared, s3 = { s2 with heap := h1, toks := s2.toks + ([] : List (Str × Value)).length } ->
      codeAny (model X.prog X.w) X.A (.compLoop (.ListComp elt [⟨tg, iter, ifs, 0⟩] scope pos) 0 (.ref it) (.ref D) (compEnvC scope (closes X.env scope.names []) g3.objs.size X.env)) (RR (.ref D) g3.objs.size) s3 := by
    rintro s3 rfl
    refine comp_turns (fun n s' => ∃ i ys H', Inv (blk X scope NB g3.objs.size { s2 with heap := g3 } H3 fp) [] (carry fr σ) H' s' /\ tn i s'.heap /\ (∀ b ∈ fp, H' b = none) /\ W i n ys H') ?_ m0 ⟨0, [], H3, J0, st4, fun b hb => (f3 b hb).1, w0⟩
    rintro n s3 ⟨i, ys, H4, J4, st, fr4, w4⟩
    obtain ⟨hl4, alt⟩ := turn i n ys H4 w4
    rcases alt with ⟨stop, qn⟩ | ⟨go, hlen, N, hN, step⟩
    · refine thn (T.done (blk X scope NB g3.objs.size { s2 with heap := g3 } H3 fp) rfl rfl rfl hcalm i [] s3 (carry fr σ) H4 (fun _ _ => False) J4 (fpY fr4) st stop) fun r s5 ⟨hr, J5⟩ => ?_
      subst hr
      obtain ⟨K1, K2, K3⟩ := back J5
      exact hRR D g3.objs.size H4 s5 K1 K2 K3 qn
    · refine thn (T.item (blk X scope NB g3.objs.size { s2 with heap := g3 } H3 fp) rfl rfl rfl hcalm i [] s3 (carry fr σ) H4 (fun _ _ => False) J4 (fpY fr4) st go) fun r s5 ⟨u, hr, h5⟩ => ?_
      subst hr
      refine thn h5 fun _ s6 ⟨x, H6, J6, r6, y6, st6, fr6⟩ => ?_
      have J6' := J6.pinned (fpY fr6) (T.obj _ _ st6)
      refine thn (hg _ _ _ _ _ s6 (carry fr σ) H6 x u _ J6' r6 (step x H6 y6)) fun _ s7 ⟨σ7, H7, J7, wk, q7⟩ => ?_
      have again : ∀ {ys' : List V} {H8 : Hp} {s8 : Shared}, Inv (blk X scope NB g3.objs.size { s2 with heap := g3 } H3 fp) ([] ++ pinsAt fp s6.heap) σ7 H8 s8 -> N ys' H8 ->
          ∃ m, m < n /\ ∃ i ys H', Inv (blk X scope NB g3.objs.size { s2 with heap := g3 } H3 fp) [] (carry fr σ) H' s8 /\ tn i s8.heap /\ (∀ b ∈ fp, H' b = none) /\ W i m ys H' := fun {ys' H8 s8} J8 n8 => by
        obtain ⟨m', hm, w8⟩ := hN ys' H8 n8
        refine ⟨m', hm, i + 1, ys', H8, J8.unpinned.weak wk.1.symm wk.2, T.keep _ _ _ st6 fun b hb o e => (J8.pin (b, o) (List.mem_append_right _ (List.mem_append_right _ (mem_pinsAt hb e)))).1, fun b hb => ?_, w8⟩
        obtain ⟨o, e, d⟩ := T.obj _ _ st6 b hb
        exact (J8.pin (b, o) (List.mem_append_right _ (List.mem_append_right _ (mem_pinsAt hb e)))).2.1
      have tests : wpAny (model X.prog X.w) X.A (forIn ifs true fun c r => if r = true then do let ok <- isTrue c (compEnvC scope (closes X.env scope.names []) g3.objs.size X.env) (eval c (compEnvC scope (closes X.env scope.names []) g3.objs.size X.env)); pure (ForInStep.yield ok) else pure (ForInStep.yield r))
          (TP (blk X scope NB g3.objs.size { s2 with heap := g3 } H3 fp) ([] ++ pinsAt fp s6.heap) σ7 fun b H3' => if b = true then te σ7 H3' fun y H4' => H4' D = some (.lst ys) /\ N (ys ++ [y]) (upd H4' D (.lst (ys ++ [y]))) else N ys H3') (fun _ _ => False) s7 := by
        generalize hif g3.objs.size { s2 with heap := g3 } H3 fp = PF
        cases PF with
        | nil => exact wpAny_tests_nil ⟨H7, J7, q7⟩
        | one hpt => exact wpAny_tests_one (hpt _ s7 σ7 H7 _ J7 q7)
      refine thn tests fun ok s8 ⟨H8, J8, q8⟩ => ?_
      cases ok with
      | false => exact again J8 q8
      | true =>
        rw [if_pos rfl]
        refine thn (he _ _ _ _ _ s8 σ7 H8 _ J8 q8) fun y s9 ⟨yv, H9, J9, r9, hD9, n9⟩ => ?_
        refine thn (mt_append (X := blk X scope NB g3.objs.size { s2 with heap := g3 } H3 fp) _ s9 σ7 H9 (.ref D) [yv] (.ref D) [y] (fun v H' => v = .non /\ N (ys ++ [yv]) H') J9 rfl (.cons r9 .nil) ⟨D, ys, yv, rfl, rfl, hD9, hlen, rfl, n9⟩) fun _ s10 ⟨_, H10, J10, _, _, n10⟩ => ?_
        exact again J10 n10
  exact codeAny_compStart_list (loop _ rfl) (T.self _ 0 _ _ _ st4 (loop _ rfl))
theorem pe_comp {sc : Scope} {N : List Str} (hcalm : X.calm = true) (B' : BlkOk sc N scope NB fr) (hi : PI X tg iter wi) (hg : ∀ C s H fp, PG (blk X scope NB C s H fp) tg g) (hif : ∀ C s H fp, PIfs (blk X scope NB C s H fp) ifs tc) (he : ∀ C s H fp, PE (blk X scope NB C s H fp) elt te)
    (hs : ∀ x, foldedSetIterable iter X.env x = pure x := by intro _; rfl) (hsc : X.env.scope = sc := by rfl) (hNN : X.N = N := by rfl) : PE X (.ListComp elt [⟨tg, iter, ifs, 0⟩] scope pos) (tComp fr wi g tc te) := by
  have B : BlkOk X.env.scope X.N scope NB fr := by rw [hsc, hNN]; exact B'
  intro pins s σ H Q I h
  rw [eval_ListComp]
  refine wpAny_comprehension_free (use := none) rfl hs (closureFor_closes (B.closed I)) B.kind B.names (thn (hi pins s σ H _ I h) fun v s1 h1 => thn h1 fun itv s2 h2 => ?_)
  refine blk_run hcalm B hg hif he h2 (RR := fun acc C => compPost (model X.prog X.w) X.A X.xe none (EP X pins σ Q) acc C) fun D C H' s' I' f ⟨m, hm⟩ q => ?_
  exact ⟨m, hm, fun h'' hs'' => ⟨.ref D, H', I'.lost hs'' f, rfl, q⟩⟩
theorem ps_comp {sc : Scope} {N : List Str} {i : Nat} {x : Str} {px spos : Pos} (hN : X.N.Nodup) (hix : X.N[i]? = some x) (hx : X.env.scope.names.lookup x = some .local) (hcalm : X.calm = true) (B' : BlkOk sc N scope NB fr) (hi : PI X tg iter wi)
    (hg : ∀ C s H fp, PG (blk X scope NB C s H fp) tg g) (hif : ∀ C s H fp, PIfs (blk X scope NB C s H fp) ifs tc) (he : ∀ C s H fp, PE (blk X scope NB C s H fp) elt te)
    (hsw : swapsWith (.ListComp elt [⟨tg, iter, ifs, 0⟩] scope pos) (some (.Name x px)) spos.line X.env = pure true := by rfl)
    (hs : ∀ x, foldedSetIterable iter X.env x = pure x := by intro _; rfl) (hsc : X.env.scope = sc := by rfl) (hNN : X.N = N := by rfl) : PS X (.Assign [.Name x px] (.ListComp elt [⟨tg, iter, ifs, 0⟩] scope pos) spos) (tAsg (tComp fr wi g tc te) (gName i)) := by
  have B : BlkOk X.env.scope X.N scope NB fr := by rw [hsc, hNN]; exact B'
  intro pins s σ H D I h
  rw [exec_Assign_Name_used _ _ _ _ hsw]
  refine wpAny_bind (wpAny_standAt (wpAny_bind ?_))
  show wpAny _ _ (do let _ <- comprehension (.ListComp elt [⟨tg, iter, ifs, 0⟩] scope pos) scope X.env _ (newList []) false (eval iter X.env) (some (assign (.Name x px) X.env))) _ _ s
  refine wpAny_bind (wpAny_mono (wpAny_comprehension_free (use := some (assign (.Name x px) X.env)) (Q := fun _ s' => SP X pins D .next s') rfl hs (closureFor_closes (B.closed I)) B.kind B.names
    (thn (hi pins s σ H _ I h) fun v s1 h1 => thn h1 fun itv s2 h2 => ?_)) (fun _ s' hq => wpAny_pure (wpAny_pure hq)) fun _ _ z => z)
  refine blk_run hcalm B hg hif he h2 (RR := fun acc C => compPost (model X.prog X.w) X.A X.xe (some (assign (.Name x px) X.env)) (fun _ s' => SP X pins D .next s') acc C) fun Dl C H' s' I' f ⟨m, hm⟩ q => ?_
  show wpAny _ _ (assign (.Name x px) X.env (.ref Dl)) _ _ _
  refine wpAny_assign_Name (store_ok2 I' hN hix (.inl hx) (v := .ref Dl) rfl (fun s3 I3 ⟨a, hs3, ha⟩ => ?_) (.inr hx))
  have ne : C ≠ a := by
    rcases ha with e | e
    · rw [e]; exact f.2.1
    · exact fun z => f.2.2.2.2.1 x a e z.symm
  exact ⟨m, hm.sameBut hs3 ne, fun h'' hs'' => ⟨_, H', I3.lost hs'' f, q⟩⟩
end
end L2
namespace L2
open PySem PySem.Spec PyProof.Rows
structure Cal (P : Program) (w : World) (K : PySem.W.Frag) (mg : Str -> Option Value) (base : Heap) (k : Nat) (x : Str) (ps : List Str) (sp : Sp) : Prop where
  ex : ∃ f fd, FnOk P w K mg base CX0 k f fd ps sp /\ mg x = some (.ref f) /\ PySem.W.keepIn K (.ref f) = true /\ Binds K fd ps []
section
variable {X : Cx} {k : Nat} {x : Str} {ps : List Str} {sp : Sp} {p pos : Pos} {e : Expr} {es : List Expr} {t : TA}
theorem pe_cal (C : Cal X.prog X.w X.K X.mg X.base k x ps sp) (hr : Room k X.A) (hg : Gl X x) (ha : PA X (e :: es) t) (hdb : (x == ("__debug__" : Str)) = false := by decide)
    (he : starEach (e :: es) X.env = (false, eval e X.env) :: starEach es X.env := by rfl) (hpl : (backTo pos (starEach es X.env)).any (·.1) = false := by rfl) : PE X (.Call (.Name x p) (e :: es) [] pos) (tCall sp [] E0 t) := by
  obtain ⟨f, fd, G, m, kk, b⟩ := C.ex
  exact pe_call G hr hg m kk b .nil pass0 ha hdb he hpl
end
structure Txt (BN : List Str) (mg : Str -> Option Value) : Prop where
  nb : ∀ x ∈ BN, mg x = none
def CDivP (_ j : Int) : Prop := 0 < j /\ Bits 9000 j
section
variable {X : Cx}
theorem op_fdivP : OpR X (binaryOp .FloorDiv) (rI CDivP fun i j => .int (i / j)) := opI fun i j _ _ _ _ _ hc q => by
  have h1 : (0 : Int) < j := hc.1
  exact floordiv_int (by omega) (by rw [Int.fdiv_eq_ediv_of_nonneg i (by omega)]; exact q) (.inl (PyProof.noPylong_of_log2 (hc.2.log2 (by decide))))
def clsV : V -> Option Value
  | .ty n => some (.type n)
  | .ref C => some (.ref C)
  | _ => none
theorem clsV_rel {c : V} {u cv : Value} (h : clsV c = some cv) (r : RelV c u) : u = cv := by
  cases c with
  | ty n => cases h; exact r
  | ref C => cases h; exact r
  | _ => cases h
theorem call_isi : CallR X (.builtin "isinstance") (fun xs H Q => ∃ x c t cv b, xs = [x, c] /\ clsV c = some cv /\ TyOf X.K H x t /\ PySem.W.kitOne X.K t cv = some b /\ Q (.bl b) H) := by
  intro pins s σ H xs us Q I r h
  obtain ⟨x, c, t, cv, b, rfl, hc, ty, e, q⟩ := h
  obtain ⟨u, u', rfl, r1, r2⟩ := vals2 r
  obtain rfl := clsV_rel hc r2
  exact isinst_ok I r1 ty e fun tk => ⟨.bl b, H, I.tok tk, rfl, q⟩
theorem pe_ty {BN : List Str} {pos : Pos} (T : Txt BN X.mg) (n : String) (hg : Gl X (Str.ofString n) := by rfl) (hn : Str.ofString n ∈ BN := by decide) (hv : bootBuiltins (Str.ofString n) = some (.type n) := by decide +kernel)
    (h1 : Str.ofString n ≠ "__name__" := by decide) (h2 : (Str.ofString n == ("__debug__" : Str)) = false := by decide) : PE X (.Name (Str.ofString n) pos) (tC (.ty n)) := pe_bltn hg (T.nb _ hn) hv rfl h1 h2
theorem call_sumI (hc : X.calm = true) : CallR X (.builtin "sum") (fun xs H Q => ∃ (a : Addr) (ns : List Int), xs = [.ref a] /\ SqL X.K H a (ns.map V.int) /\ Q (.int ns.sum) H) := by
  intro pins s σ H xs us Q I r h
  obtain ⟨a, ns, rfl, hs, q⟩ := h
  obtain ⟨u, rfl, r1⟩ := vals1 r
  obtain rfl : u = Value.ref a := r1
  obtain ⟨its, rv, p, hz⟩ := I.list hs
  have hi := intsAre_of rv
  obtain ⟨m, F⟩ := I.fr
  have N : News X.base X.env.locals s.heap [] := fun q hq => absurd hq (by simp)
  obtain ⟨zs, hx⟩ := hi.allInts.items
  have hl' : s.heap.IsList a (intItems zs) := hx ▸ p.isList
  refine sum_intListG (I.ok.hd hc) hl' fun h' tk t' hk => ?_
  have e1 : ns = zs.toList.map (·.1) := by
    rw [<- nums_intItems, <- hx]
    exact (show numsOf its.toArray.toList = ns from hi.numsOf).symm
  have e2 : preSum (numAt zs) zs.size = ns.sum := by
    rw [preSum_eq, List.take_of_length_le (by simp), e1]
  rw [e2]
  exact ⟨.int ns.sum, H, I.kept hk, ⟨_, rfl⟩, q⟩
end
theorem Same.new {H : Hp} {p : Addr} (h : H p = none) (o : HO) : Same H (upd H p o) := fun b u q => by rw [upd_ne (ne_of_none q h)]; exact q
theorem Same.seqT {K : PySem.W.Frag} {H H' : Hp} {a : Addr} {xs : List V} (e : Same H H') (h : SqT K H a xs) : SqT K H' a xs := by
  rcases h with (h | ⟨o, h⟩) | h
  · exact .inl (.inl (e _ _ h))
  · exact .inl (.inr ⟨o, e _ _ h⟩)
  · exact .inr h
theorem Same.seqB {K : PySem.W.Frag} {b : Bool} {H H' : Hp} {a : Addr} {xs : List V} (e : Same H H') (h : SqB K b H a xs) : SqB K b H' a xs := by
  cases b
  · exact e.seq h
  · exact e.seqT h
section
variable {X : Cx} {K : PySem.W.Frag} {pos : Pos}
theorem pg_tupK {es : List Expr} {k : Nat} {t : TGs} {n : Nat} (hK : X.K = K) (hc : X.calm = true) (h : PGs X es t)
    (hn : (assignEach es X.env).length = n := by rfl) (hst : (assignEach es X.env).findIdx? (·.1) = none := by rfl) : PG X (.Tuple es k pos) (gTup K n t) := by subst hK; exact pg_tup hc h hn hst
theorem ix_listK (hK : X.K = K) : IxR X (rIxL K) := by subst hK; exact ix_list
theorem ix_tupK (hK : X.K = K) : IxR X (rIxT K) := by subst hK; exact ix_tup
theorem sl_listK (hK : X.K = K) : SlR X (rSlL K) := by subst hK; exact sl_list
theorem op_catTK (hK : X.K = K) : OpR X (binaryOp .Add) (rCatT K) := by subst hK; exact op_catT
theorem call_lenK (hK : X.K = K) : CallR X (.builtin "len") (fun xs H Q => ∃ p ys, xs = [.ref p] /\ (SqL K H p ys \/ SqT K H p ys) /\ Q (.int ys.length) H) := by subst hK; exact call_len_seq
theorem call_listK (hK : X.K = K) : CallR X (.type "list") (fun xs H Q => ∃ p ys, xs = [.ref p] /\ (SqL K H p ys \/ SqT K H p ys) /\ ∀ l, H l = none -> Q (.ref l) (upd H l (.lst ys))) := by subst hK; exact call_list_of
theorem call_tupleK (hK : X.K = K) : CallR X (.type "tuple") (fun xs H Q => ∃ p ys, xs = [.ref p] /\ ((SqL K H p ys /\ ∀ l, H l = none -> Q (.ref l) (upd H l (.tup ys))) \/ (SqT K H p ys /\ Q (.ref p) H))) := by subst hK; exact call_tuple_of
theorem call_isiK (hK : X.K = K) : CallR X (.builtin "isinstance") (fun xs H Q => ∃ x c t cv b, xs = [x, c] /\ clsV c = some cv /\ TyOf K H x t /\ PySem.W.kitOne K t cv = some b /\ Q (.bl b) H) := by subst hK; exact call_isi
end
theorem comp_seq {J : It} {n : Nat} {fr : List (Option Nat)} {g : TG} {tc : TT} {te : TE} {D : Addr} {σ : St} {H1 : Hp} {Q : VK} (Pv : Nat -> List V -> Hp -> Prop) (h0 : Pv 0 [] (upd H1 D (.lst [])))
    (hD : ∀ i ys H, i <= n -> Pv i ys H -> H D = some (.lst ys) /\ ys.length <= i) (hgo : ∀ i ys H, i < n -> Pv i ys H -> J.go i H) (hstop : ∀ ys H, Pv n ys H -> J.stop n H) (hn : n <= sizeLine)
    (hs : ∀ i ys H x H', i < n -> Pv i ys H -> J.yld i H x H' -> g x (carry fr σ) H' fun σ2 H2 => Wk (carry fr σ) σ2 /\ tc σ2 H2 fun b H3 => if b = true then te σ2 H3 fun y H4 => H4 D = some (.lst ys) /\ Pv (i + 1) (ys ++ [y]) (upd H4 D (.lst (ys ++ [y]))) else Pv (i + 1) ys H3)
    (hd : ∀ ys H, Pv n ys H -> Q (.ref D) H) : tTurns fr g tc te D J σ H1 Q := by
  refine ⟨fun i m ys H => m = n - i /\ i <= n /\ Pv i ys H, ⟨n, by simp, Nat.zero_le _, h0⟩, ?_⟩
  rintro i m ys H ⟨rfl, hi, p⟩
  obtain ⟨q, hl⟩ := hD i ys H hi p
  refine ⟨q, ?_⟩
  by_cases hlt : i < n
  · exact .inr ⟨hgo i ys H hlt p, by omega, Pv (i + 1), fun ys' H' p' => ⟨n - (i + 1), by omega, rfl, hlt, p'⟩, fun x H' y => hs i ys H x H' hlt p y⟩
  · have e : i = n := by omega
    subst e
    exact .inl ⟨hstop ys H p, hd ys H p⟩
theorem comp_list {K : PySem.W.Frag} {a : Addr} {xs : List V} {fr : List (Option Nat)} {g : TG} {tc : TT} {te : TE} {D : Addr} {σ : St} {H1 : Hp} {Q : VK} (Pv : Nat -> List V -> Hp -> Prop) (h0 : Pv 0 [] (upd H1 D (.lst [])))
    (hD : ∀ i ys H, i <= xs.length -> Pv i ys H -> H D = some (.lst ys) /\ ys.length <= i) (hl : ∀ i ys H, i <= xs.length -> Pv i ys H -> SqL K H a xs) (hn : xs.length <= sizeLine)
    (hs : ∀ i x ys H, xs[i]? = some x -> Pv i ys H -> g x (carry fr σ) H fun σ2 H2 => Wk (carry fr σ) σ2 /\ tc σ2 H2 fun b H3 => if b = true then te σ2 H3 fun y H4 => H4 D = some (.lst ys) /\ Pv (i + 1) (ys ++ [y]) (upd H4 D (.lst (ys ++ [y]))) else Pv (i + 1) ys H3)
    (hd : ∀ ys H, Pv xs.length ys H -> Q (.ref D) H) : tTurns fr g tc te D (Itl K a) σ H1 Q := by
  refine comp_seq (n := xs.length) Pv h0 hD (fun i ys H hi p => ⟨xs, xs[i], hl i ys H (Nat.le_of_lt hi) p, by simp [hi]⟩) (fun ys H p => ⟨xs, hl _ ys H (Nat.le_refl _) p, Nat.le_refl _⟩) hn (fun i ys H x H' hi p y => ?_) hd
  obtain ⟨e, y⟩ := y
  subst e
  exact hs i x ys _ (y xs (hl i ys _ (Nat.le_of_lt hi) p)) p
theorem comp_tup {K : PySem.W.Frag} {a : Addr} {xs : List V} {fr : List (Option Nat)} {g : TG} {tc : TT} {te : TE} {D : Addr} {σ : St} {H1 : Hp} {Q : VK} (Pv : Nat -> List V -> Hp -> Prop) (h0 : Pv 0 [] (upd H1 D (.lst [])))
    (hD : ∀ i ys H, i <= xs.length -> Pv i ys H -> H D = some (.lst ys) /\ ys.length <= i) (hl : ∀ i ys H, i <= xs.length -> Pv i ys H -> SqT K H a xs) (hn : xs.length <= sizeLine)
    (hs : ∀ i x ys H, xs[i]? = some x -> Pv i ys H -> g x (carry fr σ) H fun σ2 H2 => Wk (carry fr σ) σ2 /\ tc σ2 H2 fun b H3 => if b = true then te σ2 H3 fun y H4 => H4 D = some (.lst ys) /\ Pv (i + 1) (ys ++ [y]) (upd H4 D (.lst (ys ++ [y]))) else Pv (i + 1) ys H3)
    (hd : ∀ ys H, Pv xs.length ys H -> Q (.ref D) H) : tTurns fr g tc te D (Itt K a) σ H1 Q := by
  refine comp_seq (n := xs.length) Pv h0 hD (fun i ys H hi p => ⟨xs, xs[i], hl i ys H (Nat.le_of_lt hi) p, by simp [hi]⟩) (fun ys H p => ⟨xs, hl _ ys H (Nat.le_refl _) p, Nat.le_refl _⟩) hn (fun i ys H x H' hi p y => ?_) hd
  obtain ⟨e, y⟩ := y
  subst e
  exact hs i x ys _ (y xs (hl i ys _ (Nat.le_of_lt hi) p)) p
theorem comp_zip {K : PySem.W.Frag} {b1 b2 : Bool} {a1 a2 : Addr} {us vs : List V} {fr : List (Option Nat)} {g : TG} {tc : TT} {te : TE} {D : Addr} {σ : St} {H1 : Hp} {Q : VK} (Pv : Nat -> List V -> Hp -> Prop) (h0 : Pv 0 [] (upd H1 D (.lst [])))
    (hD : ∀ i ys H, i <= min us.length vs.length -> Pv i ys H -> H D = some (.lst ys) /\ ys.length <= i) (hl : ∀ i ys H, i <= min us.length vs.length -> Pv i ys H -> SqB K b1 H a1 us /\ SqB K b2 H a2 vs) (hn : us.length <= sizeLine)
    (hs : ∀ i x y T ys H, us[i]? = some x -> vs[i]? = some y -> H T = none -> Pv i ys H -> g (.ref T) (carry fr σ) (upd H T (.tup [x, y])) fun σ2 H2 => Wk (carry fr σ) σ2 /\ tc σ2 H2 fun b H3 => if b = true then te σ2 H3 fun y H4 => H4 D = some (.lst ys) /\ Pv (i + 1) (ys ++ [y]) (upd H4 D (.lst (ys ++ [y]))) else Pv (i + 1) ys H3)
    (hd : ∀ ys H, Pv (min us.length vs.length) ys H -> Q (.ref D) H) : tTurns fr g tc te D (Itz K b1 b2 a1 a2) σ H1 Q := by
  refine comp_seq (n := min us.length vs.length) Pv h0 hD (fun i ys H hi p => ?_) (fun ys H p => ?_) (by omega) (fun i ys H x H' hi p y => ?_) hd
  · obtain ⟨h1, h2⟩ := hl i ys H (Nat.le_of_lt hi) p
    have e1 : i < us.length := by omega
    have e2 : i < vs.length := by omega
    exact ⟨us, vs, us[i], vs[i], h1, h2, by simp [e1], by simp [e2]⟩
  · obtain ⟨h1, h2⟩ := hl _ ys H (Nat.le_refl _) p
    exact ⟨us, vs, h1, h2, by omega⟩
  · obtain ⟨h1, h2⟩ := hl i ys H (Nat.le_of_lt hi) p
    obtain ⟨T, v, u, e1, e2, e3, y1, y2⟩ := y
    subst e1 e3
    exact hs i v u T ys _ (y1 us h1) (y2 vs h2) e2 p
theorem Same.upd_old {H H' : Hp} {D : Addr} {o : HO} (e : Same H H') (h : H D = none) : Same H (upd H' D o) := fun b u q => by
  rw [upd_ne (fun z => by rw [z, h] at q; cases q)]; exact e b u q
theorem tYes_then {σ : St} {H : Hp} {A B : Hp -> Prop} (h : A H) : tYes σ H (fun b H3 => if b = true then A H3 else B H3) := by
  show if true = true then A H else B H
  exact iteT h
end L2
namespace L2
open PySem
def KD {α : Type} : Sem α -> Prop
  | .pure _ => True
  | .raise _ => True
  | .unsupported _ => True
  | .finish _ => True
  | .rule _ k => KD (k ())
  | .at _ k => KD (k ())
  | .load _ _ k => ∀ o, KD (k o)
  | .update _ _ f k => (∀ o, (f o).dict = o.dict /\ (o.isFreed = false -> (f o).isFreed = false)) /\ KD (k ())
  | .alloc _ k => ∀ a, KD (k a)
  | .loadIfAlive _ k => ∀ o, KD (k o)
  | .point _ k => KD (k ())
  | .register _ _ => True
  | .fresh k => ∀ t, KD (k t)
  | .ask k => ∀ t, KD (k t)
  | .choose _ _ k => ∀ n, KD (k n)
  | .os _ _ k => ∀ r, KD (k r)
  | .handled _ k => ∀ o, KD (k o)
  | .stack k => ∀ l, KD (k l)
  | .thread k => ∀ n, KD (k n)
  | _ => False
def DK (h h' : Heap) : Prop := ∀ b o, h.get? b = some o -> ∃ o', h'.get? b = some o' /\ o'.dict = o.dict
theorem DK.refl (h : Heap) : DK h h := fun b o e => ⟨o, e, rfl⟩
theorem DK.trans {h h1 h2 : Heap} (x : DK h h1) (y : DK h1 h2) : DK h h2 := fun b o e => by
  obtain ⟨o1, e1, d1⟩ := x b o e
  obtain ⟨o2, e2, d2⟩ := y b o1 e1
  exact ⟨o2, e2, d2.trans d1⟩
theorem DK.of {h h' : Heap} (k : ∀ b o, h.get? b = some o -> h'.get? b = some o) : DK h h' := fun b o e => ⟨o, k b o e, rfl⟩
theorem get_alive {h : Heap} {a : Addr} {o : Obj} (e : h.get? a = some o) : o.isFreed = false := by
  unfold Heap.get? at e
  split at e
  · cases e
  · rename_i hne
    obtain ⟨c, d, dt, sl⟩ := o
    cases dt with
    | freed => exact absurd e (hne c d sl)
    | _ => rfl
theorem DK.upd {h : Heap} {a : Addr} {f : Obj -> Obj} (hf : ∀ o, (f o).dict = o.dict /\ (o.isFreed = false -> (f o).isFreed = false)) : DK h (h.update a f) := fun b o e => by
  by_cases c : b = a
  · subst c
    exact ⟨f o, Heap.get?_update_self f e ((hf o).2 (get_alive e)), (hf o).1⟩
  · exact ⟨o, (Heap.get?_update_other _ _ (Ne.symm c)).trans e, rfl⟩
theorem kd_keep {α : Type} {M : Model} {Γ : Ctx} (h0 : Heap) : ∀ (t : Sem α) {Q : α -> Pos -> Shared -> Prop} {E : Value -> Pos -> Shared -> Prop} {p : Pos} {s : Shared}, KD t -> DK h0 s.heap -> Sem.wp M Γ t Q E p s ->
    Sem.wp M Γ t (fun a p' s' => Q a p' s' /\ DK h0 s'.heap) (fun e p' s' => E e p' s' /\ DK h0 s'.heap) p s := by
  intro t
  induction t with
  | pure a => intro Q E p s k d h; rw [Sem.wp] at *; exact ⟨h, d⟩
  | raise e => intro Q E p s k d h; rw [Sem.wp] at *; exact ⟨h, d⟩
  | rule t k ih => intro Q E p s kd d h; rw [Sem.wp] at *; exact ih () kd d h
  | «at» p' k ih => intro Q E p s kd d h; rw [Sem.wp] at *; exact ih () kd d h
  | load a r k ih => intro Q E p s kd d h; rw [Sem.wp] at *; obtain ⟨o, e, h⟩ := h; exact ⟨o, e, ih o (kd o) d h⟩
  | update a r f k ih => intro Q E p s kd d h; rw [Sem.wp] at *; exact ⟨h.1, ih () kd.2 (d.trans (DK.upd kd.1)) h.2⟩
  | alloc o k ih => intro Q E p s kd d h; rw [Sem.wp] at *; exact ih _ (kd _) (d.trans (DK.of fun b o e => Heap.get?_push_of_some _ e)) h
  | loadIfAlive a k ih => intro Q E p s kd d h; rw [Sem.wp] at *; exact ih _ (kd _) d h
  | point l k ih => intro Q E p s kd d h; rw [Sem.wp] at *; exact ih () kd d h
  | fresh k ih => intro Q E p s kd d h; rw [Sem.wp] at *; exact ih _ (kd _) d h
  | ask k ih => intro Q E p s kd d h; rw [Sem.wp] at *; exact ih _ (kd _) d h
  | choose c n k ih => intro Q E p s kd d h; rw [Sem.wp] at *; exact ⟨h.1, ih _ (kd _) d h.2⟩
  | os q l k ih => intro Q E p s kd d h; rw [Sem.wp] at *; exact ih _ (kd _) d h
  | handled o k ih => intro Q E p s kd d h; rw [Sem.wp] at *; exact ih _ (kd _) d h
  | stack k ih => intro Q E p s kd d h; rw [Sem.wp] at *; exact ih _ (kd _) d h
  | thread k ih => intro Q E p s kd d h; rw [Sem.wp] at *; exact ih _ (kd _) d h
  | unsupported w => intro Q E p s kd d h; rw [Sem.wp] at h; exact h.elim
  | finish w => intro Q E p s kd d h; rw [Sem.wp] at h; exact h.elim
  | register a k => intro Q E p s kd d h; rw [Sem.wp] at h; exact h.elim
  | _ => intro Q E p s kd d h; exact absurd kd (by simp [KD])
theorem wp_kd {α : Type} {M : Model} {A : Around} {t : Sem α} {Q : α -> Shared -> Prop} {E : Value -> Shared -> Prop} {s : Shared} (k : KD t) (h : wpAny M A t Q E s) :
    wpAny M A t (fun a s' => Q a s' /\ DK s.heap s'.heap) (fun e s' => E e s' /\ DK s.heap s'.heap) s := fun Γ p hΓ => kd_keep s.heap t k (DK.refl _) (h Γ p hΓ)
theorem kd_bind {α β : Type} {m : Sem α} {f : α -> Sem β} (h : KD m) (k : ∀ a, KD (f a)) : KD (m >>= f) := by
  show KD (m.bind f)
  induction m with
  | pure a => exact k a
  | raise e => trivial
  | unsupported w => trivial
  | finish w => trivial
  | rule t k ih => exact ih () h
  | «at» p' k ih => exact ih () h
  | load a r k ih => exact fun o => ih o (h o)
  | update a r f k ih => exact ⟨h.1, ih () h.2⟩
  | alloc o k ih => exact fun a => ih a (h a)
  | loadIfAlive a k ih => exact fun a => ih a (h a)
  | point l k ih => exact ih () h
  | fresh k ih => exact fun a => ih a (h a)
  | ask k ih => exact fun a => ih a (h a)
  | choose c n k ih => exact fun a => ih a (h a)
  | os q l k ih => exact fun a => ih a (h a)
  | handled o k ih => exact fun a => ih a (h a)
  | stack k ih => exact fun a => ih a (h a)
  | thread k ih => exact fun a => ih a (h a)
  | register a k => trivial
  | _ => exact absurd h (by simp [KD])
theorem kd_pure {α : Type} {a : α} : KD (Pure.pure a : Sem α) := trivial
theorem kd_uns {α : Type} {w : String} : KD (PySem.unsupported w : Sem α) := trivial
theorem kd_load {a : Addr} : KD (PySem.load a) := fun o => trivial
theorem kd_stack : KD PySem.stack := fun o => trivial
theorem kd_fields {a : Addr} {g : Array Value -> Array Value} : KD (PySem.update a (Obj.mapFields g)) := ⟨fun o => by
  unfold Obj.mapFields
  split
  · exact ⟨rfl, fun _ => rfl⟩
  · exact ⟨rfl, fun h => h⟩, trivial⟩
theorem kd_fieldsOf {v : Value} : KD (fieldsOf v) := by
  unfold fieldsOf
  split
  · refine kd_bind kd_load fun o => ?_
    split
    · exact kd_pure
    · exact kd_uns
  · exact kd_uns
theorem kd_field {v : Value} {i : Nat} : KD (field v i) := by
  unfold field
  refine kd_bind kd_fieldsOf fun vs => ?_
  split
  · exact kd_pure
  · exact kd_uns
theorem kd_setField {v x : Value} {i : Nat} : KD (setField v i x) := by
  unfold setField
  split
  · unfold updateField
    refine kd_bind kd_load fun o => ?_
    split
    · split
      · exact kd_fields
      · exact kd_uns
    · exact kd_uns
  · exact kd_uns
theorem kd_setFlight {v : Value} {f : Option Addr} : KD (setFlight v f) := by
  unfold setFlight
  refine kd_bind kd_field fun tb => ?_
  split
  · exact kd_setField
  · exact kd_pure
theorem kd_entry {f : Addr} {b : Bool} : KD (entryPlaceOf f b) := by
  unfold entryPlaceOf
  refine kd_bind kd_stack fun acts => ?_
  split
  · exact kd_pure
  · exact kd_pure
theorem kd_slots {a : Addr} (g : Obj -> Array (Option Value)) : KD (PySem.update a fun o => { o with slots := g o }) := ⟨fun o => ⟨rfl, fun h => by
  obtain ⟨c, d, dt, sl⟩ := o
  cases dt with
  | freed => exact absurd h (by simp [Obj.isFreed])
  | _ => rfl⟩, trivial⟩
theorem kd_under : KD underTheClaimsCaller := by
  unfold underTheClaimsCaller
  refine kd_bind kd_stack fun acts => ?_
  exact kd_pure
theorem kd_ready : ∀ {l : List Env}, KD (readyFrames l)
  | [] => trivial
  | env :: outer => by
    unfold readyFrames
    split
    · refine kd_bind kd_load fun o => ?_
      split
      · exact kd_pure
      · refine kd_bind ?_ fun b => kd_bind ?_ fun back => kd_bind (kd_slots fun o => _) fun _ => kd_ready
        · unfold behindIsImport
          split
          · exact kd_pure
          · split
            · exact kd_pure
            · exact kd_bind kd_field fun _ => kd_pure
        · unfold keptBack
          split
          · split
            · exact kd_pure
            · exact kd_bind kd_under fun _ => kd_pure
          · exact kd_pure
    · exact kd_uns
theorem kd_frameOf {env : Env} : KD (frameOf env) := by
  unfold frameOf frameEnvs
  refine kd_bind (kd_bind kd_stack fun _ => kd_pure) fun l => kd_bind ?_ fun o => ?_
  · unfold frameObject
    split
    · exact kd_pure
    · exact kd_bind kd_ready fun _ => kd_pure
  · split
    · exact kd_pure
    · exact kd_uns
theorem kd_newEntry {a b c d e : Value} {l : List Value} : KD (EntryCells.newEntry a b c d e l) := by
  have asIs : ∀ vs : Array Value, KD (newObjAsIs (.type "traceback") (.fields vs)) := fun vs => by
    unfold newObjAsIs
    exact kd_bind (fun a => trivial) fun a => kd_pure
  unfold EntryCells.newEntry newFields
  generalize [a, b, c, d, e] ++ (if l.isEmpty = true then List.replicate 6 Value.none else l) = L
  unfold newObj
  dsimp only
  split
  · exact kd_bind kd_uns fun _ => asIs _
  · exact asIs _
theorem kd_note {e : Value} {env : Env} : KD (noteFrame e env) := by
  unfold noteFrame
  split
  · refine kd_bind kd_field fun head => ?_
    have fin : ∀ f : Addr, KD (do setField e 1 (<- EntryCells.newEntry head (<- frameOf env) .none (rawInt f) .none (<- entryPlaceOf f (head != .none)))) := fun f => kd_bind kd_frameOf fun _ => kd_bind kd_entry fun _ => kd_bind kd_newEntry fun _ => kd_setField
    split
    · refine kd_bind kd_field fun v => ?_
      split
      · exact kd_pure
      · exact kd_bind kd_setField fun _ => fin _
    · exact fin _
  · exact kd_uns
theorem kd_leaving {env : Env} {e : Value} : KD («leaving» env e) := kd_bind kd_note fun _ => kd_setFlight
end L2
namespace L2
open PySem PySem.Spec PyProof.Rows
def DictIs (h : Heap) (e : Addr) (dx : Option Addr) : Prop := ∀ d, dx = some d -> ∃ o, h.get? e = some o /\ o.dict = some d
theorem DictIs.dk {h h' : Heap} {e : Addr} {dx : Option Addr} (x : DictIs h e dx) (k : DK h h') : DictIs h' e dx := fun d q => by
  obtain ⟨o, e1, e2⟩ := x d q
  obtain ⟨o', e3, e4⟩ := k _ _ e1
  exact ⟨o', e3, e4.trans e2⟩
theorem DictIs.no {h : Heap} {e : Addr} : DictIs h e none := fun d q => by cases q
def CXE (P : Program) (w : World) : CXT := fun outer H s E ev s' =>
  ∃ (e C : Addr) (a0 : Value) (B : Heap) (H' : Hp) (dx : Option Addr), ev = .ref e /\ s'.os = s.os /\ AllBare s'.gens /\ Un (frs outer) [] H H' s.heap s'.heap /\ HOk P w H' s'.heap /\
    Heap.FlyingW B outer e (.ref C) a0 s'.heap /\ (∀ b u, H' b = some u -> ∃ o, B.get? b = some o) /\ (∀ b o, s.heap.get? b = some o -> b ∉ frs outer -> ∃ o', B.get? b = some o') /\ s.heap.get? e = none /\ DictIs s'.heap e dx /\ E (.ref C) dx H'
theorem hok_there {P : Program} {w : World} {H : Hp} {h : Heap} {a : Addr} {o : HO} (x : ObjOk P w H h a o) : ∃ ob, h.get? a = some ob := by
  cases o with
  | lst xs => obtain ⟨_, _, _, _, e⟩ := x; exact ⟨_, e⟩
  | tup xs => obtain ⟨_, _, _, o, e, _⟩ := x; exact ⟨o, e⟩
  | dK kvs => obtain ⟨_, _, _, _, o, _, _, e, _⟩ := x; exact ⟨o, e⟩
  | dT kvs => obtain ⟨_, _, _, _, o, _, _, e, _⟩ := x; exact ⟨o, e⟩
  | set S n => obtain ⟨o, _, _, _, e, _⟩ := x; exact ⟨o, e⟩
  | ins C dx fs => obtain ⟨_, _, _, e, _⟩ := x; exact ⟨_, e⟩
  | own y => obtain ⟨o, e⟩ := x; exact ⟨o, e⟩
  | xd fs => obtain ⟨_, ⟨o, _, _, e, _⟩, _⟩ := x; exact ⟨o, e⟩
  | rng lo hi => obtain ⟨_, _, _, e⟩ := x; exact ⟨_, e⟩
  | frz ob u => obtain ⟨e, _⟩ := x; exact ⟨_, e⟩
  | tbl ps => exact ⟨_, (show h.get? a = some _ from x)⟩
  | met f y => exact ⟨_, (show h.get? a = some _ from x)⟩
  | ext φ => obtain ⟨_, e, _⟩ := x; exact e
theorem no_fs {b : Addr} : b ∉ ([] : List Addr) := by simp
section
variable {X : Cx} {pins : List (Addr × Obj)} {σ : St} {H : Hp} {s : Shared} {g h' B : Heap} {e C : Addr} {a0 : Value} {E : XK}
theorem stay_by (hs : B.StaysIn g) (hs' : B.StaysIn h') {b : Addr} {o o' : Obj} (hb : B.get? b = some o') (hg : g.get? b = some o) : h'.get? b = some o := by
  have q := hs b o' hb
  rw [hg] at q
  cases q
  exact hs' b o hb
theorem hok_by {P : Program} {w : World} (hok : HOk P w H g) (hs : B.StaysIn g) (hs' : B.StaysIn h') (hT : ∀ b u, H b = some u -> ∃ o, B.get? b = some o) : HOk P w H h' := fun b u q =>
  (hok b u q).stay (fun c v hc r => by
    have ⟨o', z⟩ : ∃ o', B.get? c = some o' := by
      rcases hc with z | z
      · rw [z]; exact hT b u q
      · exact hT c _ z
    exact stay_by hs hs' z r) (fun _ r => r) fun _ _ r => r
theorem leave_fin {dx : Option Addr} (I : Inv X pins σ H s) (hex : X.ex = []) (gk : ∀ b o, s.heap.get? b = some o -> g.get? b = some o) (fl : Heap.FlyingW B X.outer e (.ref C) a0 h') (up : g.UpToSlots h')
    (hB : ∀ b o, X.s₀.heap.get? b = some o -> b ∉ frs X.outer -> ∃ o', B.get? b = some o') (hT : ∀ b u, H b = some u -> ∃ o, B.get? b = some o) (hs : B.StaysIn g) (he : X.s₀.heap.get? e = none) (hdx : DictIs h' e dx) (hE : E (.ref C) dx H) :
    CXE X.prog X.w X.outer X.H₀ X.s₀ E (.ref e) { s with heap := h' } := by
  have nx : ∀ b, b ∉ X.ex := fun b z => by rw [hex] at z; exact absurd z (by simp)
  have sl : ∀ b, b ∈ frs X.outer -> ∃ o o', X.s₀.heap.get? b = some o /\ h'.get? b = some o' /\ (∀ o2, X.s₀.heap.get? b = some o2 -> ∃ sl, o' = { o2 with slots := sl }) := fun b hb => by
    obtain ⟨_, o, ho, hd⟩ := I.ok.funs.mem hb
    obtain ⟨s1, e1⟩ := I.base.slot b o ho (I.ok.frf b hb) hb (nx b)
    obtain ⟨s2, e2⟩ := up b _ (gk b _ e1) hd
    exact ⟨o, _, ho, e2, fun o2 q => by rw [ho] at q; cases q; exact ⟨s2, rfl⟩⟩
  have gfl : HOk X.prog X.w H g := I.hok.kept gk
  refine ⟨e, C, a0, B, H, dx, rfl, I.os, I.bare, ⟨fun b o q n hb _ => ?_, fun b o q n hb _ => ?_, fun b o q n _ => I.base.free b o q n (nx b), fun b o q _ => ?_, I.base.tups, I.base.frzs, I.base.tbls⟩, hok_by gfl hs fl.1 hT, fl, hT, hB, he, hdx, hE⟩
  · obtain ⟨o', z⟩ := hB b o q hb
    exact stay_by hs fl.1 z (gk b o (I.base.keep b o q n hb (nx b)))
  · obtain ⟨_, o', _, z, r⟩ := sl b hb
    obtain ⟨s2, r⟩ := r o q
    exact ⟨s2, by rw [z, r]⟩
  · by_cases hb : b ∈ frs X.outer
    · obtain ⟨_, o', _, z, _⟩ := sl b hb
      exact ⟨o', z⟩
    · obtain ⟨o', z⟩ := hB b o q hb
      exact ⟨o', fl.1 b o' z⟩
theorem Inv.older (I : Inv X pins σ H s) {b : Addr} {o : Obj} (q : X.s₀.heap.get? b = some o) (hb : b ∉ frs X.outer) : b ∉ frs X.stack := fun z => by
  rcases List.mem_cons.mp (I.stkSub b z) with r | r
  · rw [r] at q; exact absurd (Nat.lt_of_lt_of_le (Heap.lt_size q) I.ok.above) (Nat.lt_irrefl _)
  · exact hb r
end
section
variable {P : Program} {w : World} {K : PySem.W.Frag} {mg : Str -> Option Value} {base : Heap} {N : List Str} {qual : Str} {scope : Scope} {f : Addr} {cd : Value} {A : Around} {outer : List Env} {s₀ : Shared} {H₀ : Hp} {E : XK}
theorem raise_out {pins : List (Addr × Obj)} {σ : St} {H : Hp} {s : Shared} {h1 : Heap} {e C : Addr} {args : List Value} (I : Inv (cxOf (CXE P w) P w K mg base N qual scope f cd A outer s₀ H₀ E) pins σ H s) (hx : Heap.MadeExcOf s.heap h1 e (.ref C) args) (hE : E (.ref C) none H) :
    (cxOf (CXE P w) P w K mg base N qual scope f cd A outer s₀ H₀ E).xe (.ref e) { s with heap := h1 } := by
  have hin : ∀ env ∈ (envOfC qual scope s₀.heap.objs.size f cd :: outer), ∀ b, env.frame = some b -> b ∈ frs (envOfC qual scope s₀.heap.objs.size f cd :: outer) := fun env he b hb => List.mem_filterMap.mpr ⟨env, he, hb⟩
  have hg : ∀ b o, s.heap.get? b = some o -> b ∉ frs (envOfC qual scope s₀.heap.objs.size f cd :: outer) -> (PySem.W.hideAll s.heap (frs (envOfC qual scope s₀.heap.objs.size f cd :: outer))).get? b = some o := fun b o q hb => PySem.W.hideAll_get _ q hb
  show wpAny _ _ («leaving» (envOfC qual scope s₀.heap.objs.size f cd) (.ref e)) _ _ _
  refine wpAny_leaves_madeW (base := PySem.W.hideAll s.heap (frs (envOfC qual scope s₀.heap.objs.size f cd :: outer))) (h := s.heap) I.ok.frames rfl (fun b o q => PySem.W.of_hideAll _ q) (PySem.W.funFrames_hide I.stack hin) hx fun h' t fl _ _ up => ?_
  refine leave_fin (g := h1) I rfl hx.keeps fl up (fun b o q hb => ?_) (fun b u q => ?_) (fun b o q => hx.keeps b o (PySem.W.of_hideAll _ q)) ?_ DictIs.no hE
  · obtain ⟨o', z⟩ := I.base.there b o q no_fs
    exact ⟨o', hg b o' z (I.older q hb)⟩
  · obtain ⟨o, z⟩ := hok_there (I.hok b u q)
    exact ⟨o, hg b o z fun hb => by rw [I.stkFree b hb] at q; cases q⟩
  · cases q : s₀.heap.get? e with
    | none => exact q
    | some o =>
      obtain ⟨o', z⟩ := I.base.there e o q no_fs
      rw [hx.new] at z; cases z
theorem raise_outD {pins : List (Addr × Obj)} {σ : St} {H : Hp} {s : Shared} {e C : Addr} {oe : Obj} {vs : Array Value} {a0 : Value} {dx : Option Addr} (I : Inv (cxOf (CXE P w) P w K mg base N qual scope f cd A outer s₀ H₀ E) pins σ H s)
    (he : s.heap.get? e = some oe) (hc : oe.cls = .ref C) (hv : oe.data = .fields vs) (h1 : vs[1]? = some .none) (h0 : vs[0]? = some a0) (hH : H e = none) (he0 : s₀.heap.get? e = none) (hdx : DictIs s.heap e dx) (hE : E (.ref C) dx H) :
    (cxOf (CXE P w) P w K mg base N qual scope f cd A outer s₀ H₀ E).xe (.ref e) s := by
  have hin : ∀ env ∈ (envOfC qual scope s₀.heap.objs.size f cd :: outer), ∀ b, env.frame = some b -> b ∈ e :: frs (envOfC qual scope s₀.heap.objs.size f cd :: outer) := fun env hm b hb => List.mem_cons_of_mem _ (List.mem_filterMap.mpr ⟨env, hm, hb⟩)
  have hg : ∀ b o, s.heap.get? b = some o -> b ≠ e -> b ∉ frs (envOfC qual scope s₀.heap.objs.size f cd :: outer) -> (PySem.W.hideAll s.heap (e :: frs (envOfC qual scope s₀.heap.objs.size f cd :: outer))).get? b = some o := fun b o q hb hn => PySem.W.hideAll_get _ q (fun z => (List.mem_cons.mp z).elim hb hn)
  have hbe : (PySem.W.hideAll s.heap (e :: frs (envOfC qual scope s₀.heap.objs.size f cd :: outer))).get? e = none := PySem.W.hideAll_none _ (List.mem_cons_self ..)
  show wpAny _ _ («leaving» (envOfC qual scope s₀.heap.objs.size f cd) (.ref e)) _ _ _
  refine wpAny_mono (wp_kd kd_leaving (wpAny_leaving_firstW (base := PySem.W.hideAll s.heap (e :: frs (envOfC qual scope s₀.heap.objs.size f cd :: outer))) (Q := fun _ s2 => ∃ h', s2 = { s with heap := h' } /\ Heap.LeftW (PySem.W.hideAll s.heap (e :: frs (envOfC qual scope s₀.heap.objs.size f cd :: outer))) (envOfC qual scope s₀.heap.objs.size f cd :: outer) e oe.cls a0 s.heap h')
    I.ok.frames (PySem.W.funFrames_hide I.stack hin) rfl he (fun b o q => PySem.W.of_hideAll _ q) hbe hv h1 h0 fun h' hL => ⟨h', rfl, hL⟩)) (fun _ s2 z => ?_) (fun _ _ z => z.1)
  obtain ⟨⟨h', rfl, k1, ⟨_, _, k2⟩, k3, k4⟩, dk⟩ := z
  rw [hc] at k3
  refine leave_fin (g := s.heap) I rfl (fun _ _ q => q) (⟨k1, hbe, k2, k3⟩ : Heap.FlyingW _ outer e (.ref C) a0 h') k4 (fun b o q hb => ?_) (fun b u q => ?_) (fun b o q => PySem.W.of_hideAll _ q) he0 (hdx.dk dk) hE
  · obtain ⟨o', z⟩ := I.base.there b o q no_fs
    exact ⟨o', hg b o' z (fun y => by rw [y] at q; exact absurd (q.symm.trans he0) (by simp)) (I.older q hb)⟩
  · obtain ⟨o, z⟩ := hok_there (I.hok b u q)
    exact ⟨o, hg b o z (fun y => by rw [y, hH] at q; cases q) fun hb => by rw [I.stkFree b hb] at q; cases q⟩
theorem pass_out : Passes (CXE P w) (cxOf (CXE P w) P w K mg base N qual scope f cd A outer s₀ H₀ E) E := fun pins σ H s ev s' I h => by
  obtain ⟨e, C, a0, B, H', dx, rfl, os, bare, un, hok, fl, hT, hB, he, hdx, hE⟩ := h
  have I' := I.call' os un hok bare (fun b z => absurd z (by simp))
  show wpAny _ _ («leaving» (envOfC qual scope s₀.heap.objs.size f cd) (.ref e)) _ _ _
  refine wpAny_mono (wp_kd kd_leaving (wpAny_leaves_onW (Q := fun _ s2 => ∃ h', s2 = { s' with heap := h' } /\ Heap.FlyingW B outer e (.ref C) a0 h' /\ s'.heap.UpToSlots h') I.ok.frames rfl fl fun h' f u => ⟨h', rfl, f, u⟩)) (fun _ s2 z => ?_) (fun _ _ z => z.1)
  obtain ⟨⟨h', rfl, fl', up⟩, dk⟩ := z
  refine leave_fin (g := s'.heap) I' rfl (fun _ _ q => q) fl' up (fun b o q hb => ?_) hT fl.1 ?_ (hdx.dk dk) hE
  · obtain ⟨o', z⟩ := I.base.there b o q no_fs
    exact hB b o' z (I.older q hb)
  · cases q : s₀.heap.get? e with
    | none => exact q
    | some o =>
      obtain ⟨o', z⟩ := I.base.there e o q no_fs
      rw [he] at z; cases z
end
end L2
namespace L2
open PySem PySem.Spec PyProof.Rows
def PassG (CX : CXT) (X : Cx) (G : St -> XK) : Prop := ∀ (pins : List (Addr × Obj)) (σ : St) (H : Hp) (s : Shared) (e : Value) (s' : Shared), Inv X pins σ H s -> CX X.stack H s (G σ) e s' -> X.xe e s'
def tCallG (sp : Sp) (dvs : List V) (G : St -> XK) (t : TA) : TE := fun σ H Q => t σ H fun vs H1 => sp (vs ++ dvs) H1 Q (G σ)
structure CalX (P : Program) (w : World) (K : PySem.W.Frag) (mg : Str -> Option Value) (base : Heap) (k : Nat) (x : Str) (ps : List Str) (sp : Sp) : Prop where
  ex : ∃ f fd, FnOk P w K mg base (CXE P w) k f fd ps sp /\ mg x = some (.ref f) /\ PySem.W.keepIn K (.ref f) = true /\ Binds K fd ps []
section
variable {X : Cx} {CX : CXT} {k : Nat} {f : Addr} {fd : FuncData} {ps : List Str} {sp : Sp} {dvs : List V} {ds : List Value} {G : St -> XK} {x : Str} {p pos : Pos} {e : Expr} {es : List Expr} {t : TA}
theorem run_fnG {pins : List (Addr × Obj)} {σ : St} {H : Hp} {s : Shared} {Q : VK} {us : List Value} {vs : List V} (F : FnOk X.prog X.w X.K X.mg X.base CX k f fd ps sp) (hr : Room k X.A) (hb : Binds X.K fd ps ds) (hd : Vals dvs ds) (hx : PassG CX X G)
    (I : Inv X pins σ H s) (r : Vals vs us) (h : sp (vs ++ dvs) H Q (G σ)) : wpAny (model X.prog X.w) X.A (call (.ref f) us) (EP X pins σ Q) X.xe s := by
  have r2 : Vals (vs ++ dvs) (us ++ ds) := r.append hd
  have hl : (us ++ ds).length = ps.length := by rw [<- r2.length]; exact F.len _ _ _ _ h
  refine wpAny_call (codeAny_mono (F.run X.A X.stack s H ⟨us, []⟩ (us ++ ds) (vs ++ dvs) Q (G σ) hr I.env0 (hb s us I.kIn hl) r2 h) fun r s' hq => ?_)
  cases r with
  | error e => exact hx pins σ H s e s' I hq
  | ok fl =>
    cases fl with
    | ret u => exact I.after hq
    | next => exact False.elim hq
    | brk => exact False.elim hq
    | cont => exact False.elim hq
theorem pe_calG (C : CalX X.prog X.w X.K X.mg X.base k x ps sp) (hr : Room k X.A) (hg : Gl X x) (hx : PassG (CXE X.prog X.w) X G) (ha : PA X (e :: es) t) (hdb : (x == ("__debug__" : Str)) = false := by decide)
    (he : starEach (e :: es) X.env = (false, eval e X.env) :: starEach es X.env := by rfl) (hpl : (backTo pos (starEach es X.env)).any (·.1) = false := by rfl) : PE X (.Call (.Name x p) (e :: es) [] pos) (tCallG sp [] G t) := by
  obtain ⟨f, fd, F, m, kk, b⟩ := C.ex
  intro pins s σ H Q I h
  refine wpAny_Call_Name_kw (ld_glob I hg m ?_ hdb)
  refine PySem.W.callWith_K (h₀ := X.base) I.ok.mod.kin kk (thn (ha pos pins s σ H _ I h) fun us s1 ⟨vs, H1, I1, r, q⟩ => ⟨I1.kIn, ?_⟩) he hpl
  exact run_fnG F hr b .nil hx I1 r q
end
structure ExcC (K : PySem.W.Frag) (C : Addr) : Prop where
  ok : PySem.W.excIn K C [.type "ValueError", .type "Exception", .type "BaseException", .type "object"] "ValueError.__new__" = true
theorem ExcC.obj {K : PySem.W.Frag} {C : Addr} {h : Heap} (q : ExcC K C) (X : K.In h) : ∃ (bm : List Value) (N : Addr) (nm qn : Str) (bs : List Value) (hd : Bool) (sn : List Str) (sub : List Value) (ab : Bool) (col : Option Bool) (dd : Option Addr) (k0 k1 k2 k3 k5 : Option Value) (mN : Str -> Option Value),
    h.get? C = some (excClassObj nm qn C N bs bm hd sn sub ab col dd k0 k1 k2 k3 k5 "ValueError.__new__") /\ h.Ns N mN /\ mN "__init__" = none /\ OwnTail h [.type "ValueError", .type "Exception", .type "BaseException", .type "object"] bm := by
  have q := q.ok
  unfold PySem.W.excIn at q
  split at q
  · rename_i dd cd sl ho
    split at q
    · rename_i C' bm k0 k1 k2 k3 n k5 hm hs
      simp only [Bool.and_eq_true, beq_iff_eq, Bool.not_eq_true'] at q
      obtain ⟨⟨⟨⟨⟨rfl, rfl⟩, hdel⟩, ht⟩, hok⟩, hni⟩ := q
      obtain ⟨nm, bs, mro, ns, qn, hd, sn, sub, ab, col, del⟩ := cd
      dsimp only at hm hdel hok hni
      subst hm hdel
      have hsl : sl = #[k0, k1, k2, k3, some (.builtin "ValueError.__new__"), k5] := by
        obtain ⟨l⟩ := sl
        simp only at hs
        rw [hs]
      subst hsl
      exact ⟨bm, ns, nm, qn, bs, hd, sn, sub, ab, col, dd, k0, k1, k2, k3, k5, _, X _ _ ho, .of_isNs (PySem.W.isNs_of_in X hok), PySem.W.nsMap_none_of_in X hok hni, PySem.W.tail_of_in X ht⟩
    · cases q
  · cases q
def tRaise (C : Addr) (G : St -> XK) (t : TA) : TS := fun _ σ H => t σ H fun vs H1 => vs.length <= sizeLine /\ G σ (.ref C) none H1
def RaiseG (X : Cx) (G : St -> XK) : Prop := ∀ (pins : List (Addr × Obj)) (σ : St) (H : Hp) (s : Shared) (h1 : Heap) (e C : Addr) (args : List Value), Inv X pins σ H s -> Heap.MadeExcOf s.heap h1 e (.ref C) args -> G σ (.ref C) none H -> X.xe (.ref e) { s with heap := h1 }
section
variable {X : Cx} {C : Addr} {G : St -> XK} {x : Str} {np cpos pos : Pos} {e : Expr} {es : List Expr} {t : TA}
theorem ps_raise (hc : X.calm = true) (q : ExcC X.K C) (hg : Gl X x) (hm : X.mg x = some (.ref C)) (hx : RaiseG X G) (ha : PA X (e :: es) t)
    (he : starEach (e :: es) X.env = (false, eval e X.env) :: starEach es X.env := by rfl) (hpl : (backTo cpos (starEach es X.env)).any (·.1) = false := by rfl) (hdb : (x == ("__debug__" : Str)) = false := by decide) :
    PS X (.Raise (some (.Call (.Name x np) (e :: es) [] cpos)) none pos) (tRaise C G t) := by
  intro pins s σ H D I h
  have hpl' : (backTo cpos (starEach (e :: es) X.env)).any (·.1) = false := by
    rw [he]
    show ((false || (backTo cpos (starEach es X.env)).any (·.1))) = false
    rw [hpl]; rfl
  obtain ⟨bm, N, nm, qn, bs, hd, sn, sub, ab, col, dd, k0, k1, k2, k3, k5, mN, hC, hN, hni, TL⟩ := q.obj I.mod.kin
  refine wpAny_Raise_call_subU (C := C) (N := N) (nm := nm) (q := qn) (bs := bs) (bm := bm) (hdct := hd) (sn := sn) (sub := sub) (ab := ab) (col := col) (dd := dd) (k0 := k0) (k1 := k1) (k2 := k2) (k3 := k3) (k5 := k5) (mN := mN)
    PySem.F.excBase_ValueError (by decide +kernel) PySem.F.excBase_ValueError (TL.hasType (by decide +kernel)) (I.ok.hd hc) hpl' hni (ld_glob I hg hm ⟨rfl, ?_⟩ hdb)
  have pa := ha cpos pins s σ H _ I h
  rw [he] at pa ⊢
  show wpAny _ _ (evalArgs (.ref C) true ((false, eval e X.env) :: backTo cpos (starEach es X.env)) []) _ _ _
  refine Calls.evalArgs_plain (thn pa fun us s1 ⟨vs, H1, I1, r1, z, q1⟩ => ⟨rfl, (show us.length <= sizeLine by rw [<- r1.length]; exact z), ?_⟩)
  exact ⟨I1.bk _ _ hC, hN.keeps I1.bk, TL.keeps I1.bk, fun h1 e1 hx1 => hx pins σ H1 s1 h1 e1 C us I1 hx1 q1⟩
end
def RaiseD (X : Cx) (G : St -> XK) : Prop := ∀ (pins : List (Addr × Obj)) (σ : St) (H : Hp) (s : Shared) (e C : Addr) (oe : Obj) (vs : Array Value) (a0 : Value) (dx : Option Addr), Inv X pins σ H s -> s.heap.get? e = some oe -> oe.cls = .ref C -> oe.data = .fields vs -> vs[1]? = some .none -> vs[0]? = some a0 -> H e = none -> X.s₀.heap.get? e = none -> DictIs s.heap e dx -> G σ (.ref C) dx H -> X.xe (.ref e) s
section
variable {P : Program} {w : World} {K : PySem.W.Frag} {mg : Str -> Option Value} {base : Heap} {N : List Str} {qual : Str} {scope : Scope} {f : Addr} {cd : Value} {A : Around} {outer : List Env} {s₀ : Shared} {H₀ : Hp} {E : XK}
theorem raiseD_out : RaiseD (cxOf (CXE P w) P w K mg base N qual scope f cd A outer s₀ H₀ E) (fun _ => E) := fun _ _ _ _ _ _ _ _ _ _ I he hc hv h1 h0 hH he0 hdx hE => raise_outD I he hc hv h1 h0 hH he0 hdx hE
theorem raiseG_out : RaiseG (cxOf (CXE P w) P w K mg base N qual scope f cd A outer s₀ H₀ E) (fun _ => E) := fun _ _ _ _ _ _ _ _ I hx hE => raise_out I hx hE
theorem passG_out : PassG (CXE P w) (cxOf (CXE P w) P w K mg base N qual scope f cd A outer s₀ H₀ E) (fun _ => E) := fun pins σ H s e s' I h => pass_out pins σ H s e s' I h
end
theorem Fun.okX {P : Program} {w : World} {K : PySem.W.Frag} {mg : Str -> Option Value} {base : Heap} {x qual : Str} {st : Stmt} {f : Addr} {fd : FuncData} {N ps : List Str} {k : Nat} {sp : Sp} (F : Fun K x qual st f fd) (S : FnScope N ps (defScope st)) (len : ∀ vs H Q E, sp vs H Q E -> vs.length = ps.length)
    (hbody : ∀ (cdv : Value) (A : Around) (outer : List Env) (s : Shared) (H : Hp) (vs : List V) (Q : VK) (E : XK), Room k (A.deeper (envOfC qual (defScope st) s.heap.objs.size f cdv)) -> sp vs H Q E ->
      ∃ t, PSs (cxOf (CXE P w) P w K mg base N qual (defScope st) f cdv A outer s H E) (defBody st) t /\ t { nx := fun _ H' => Q .non H', rt := Q } (start N vs) H) : FnOk P w K mg base (CXE P w) (k + 1) f fd ps sp := by
  obtain ⟨oc, od, kV, doc, pm, an, cdv, ct, osl, rfl, lk, hcd⟩ := F.ex
  exact fn_of lk hcd S len fun A outer s H vs Q E hr hsp => hbody cdv A outer s H vs Q E hr hsp
def tryC (X : Cx) (pn : List (Addr × Obj)) (G : St -> XK) : Cx := { X with pn := pn, xe := fun ev s' => ∃ σ H s, Inv { X with pn := pn, xe := fun _ _ => False } [] σ H s /\ CXE X.prog X.w X.stack H s (G σ) ev s' }
theorem Inv.like {X Y : Cx} {pins pins' : List (Addr × Obj)} {σ : St} {H : Hp} {s : Shared} (I : Inv X pins σ H s) (ok : Y.Ok) (h1 : Y.s₀ = X.s₀) (h2 : Y.H₀ = X.H₀) (h3 : Y.outer = X.outer) (h4 : Y.ex = X.ex) (h5 : Y.env = X.env) (h6 : Y.N = X.N) (h7 : Y.prog = X.prog) (h8 : Y.w = X.w)
    (hp : ∀ p ∈ Y.pn ++ pins', s.heap.get? p.1 = some p.2 /\ H p.1 = none /\ p.1 ≠ X.env.locals /\ p.1 ∉ X.fs /\ ∀ v, p.2.data ≠ .cell v) : Inv Y pins' σ H s := by
  refine ⟨ok, by rw [h1]; exact I.os, I.bare, by show Un (frs Y.outer) Y.ex Y.H₀ H Y.s₀.heap s.heap; rw [h1, h2, h3, h4]; exact I.base, by rw [h5, h6]; exact I.loc, by rw [h5]; exact I.cell, by rw [h5]; exact I.free, by rw [h5]; exact I.freeC, fun p hm => ?_, by rw [h7, h8]; exact I.hok, by rw [h6]; exact I.len⟩
  show _ /\ _ /\ p.1 ≠ Y.env.locals /\ p.1 ∉ frs Y.outer /\ _
  rw [h5, h3]
  exact hp p hm
theorem tryC_pass {X : Cx} {pn : List (Addr × Obj)} {G : St -> XK} : PassG (CXE X.prog X.w) (tryC X pn G) G := fun pins σ H s e s' I h =>
  ⟨σ, H, s, I.like (Y := { X with pn := pn, xe := fun _ _ => False }) ⟨I.ok.mod, I.ok.kind, I.ok.glob, I.ok.blt, I.ok.above, I.ok.inj, I.ok.has, I.ok.cab, I.ok.hd, I.ok.frames, I.ok.stk, I.ok.exf, I.ok.bs, I.ok.bsz, I.ok.noex, I.ok.exfs, I.ok.funs, I.ok.frf⟩ rfl rfl rfl rfl rfl rfl rfl rfl
    (fun p hp => I.pin p (List.mem_append_left _ (show p ∈ pn by simpa using hp))), h⟩
def excO (C a : Addr) : HO := .ext fun h => ∃ o, h.get? a = some o /\ o.cls = .ref C /\ ∃ vs, o.data = .fields vs
def excD (C a : Addr) : Option Addr -> HO
  | none => excO C a
  | some d => .ext fun h => ∃ o, h.get? a = some o /\ o.cls = .ref C /\ (∃ vs, o.data = .fields vs) /\ o.dict = some d
def hndC (X : Cx) (pn : List (Addr × Obj)) (e : Addr) : Cx := { X with pn := pn, A := X.A.mark (some (.ref e)), calm := false, xe := fun _ _ => False }
def tTry (K : PySem.W.Frag) (c : Addr) (i : Nat) (tb : (St -> XK) -> TS) (ts : TS) : TS := fun D σ H =>
  tb (fun σ1 cls dx H1 => ∃ C, cls = .ref C /\ PySem.W.exmOne K (.ref C) (.ref c) = some true /\ ∀ a, H1 a = none ->
    ts { nx := fun σ2 H2 => D.nx (σ2.set i none) H2, rt := D.rt, bk := fun σ2 H2 => D.bk (σ2.set i none) H2, ct := fun σ2 H2 => D.ct (σ2.set i none) H2 } (σ1.set i (some (.ref a))) (upd H1 a (excD C a dx))) D σ H
end L2
namespace L2
open PySem PySem.Spec PyProof.Rows
section
variable {X : Cx} {pins : List (Addr × Obj)} {σ : St} {H : Hp} {s : Shared}
theorem gone_ok {M : Model} {A : Around} {E : Value -> Shared -> Prop} {Q : Unit -> Shared -> Prop} {i : Nat} {n : Str} {pos : Pos} (I : Inv X pins σ H s) (hN : X.N.Nodup) (hi : X.N[i]? = some n) (hl : X.env.scope.names.lookup n = some .local)
    (h : ∀ s', Inv X pins (σ.set i none) H s' -> Q () s') : wpAny M A (do bindName X.env n .none; unbindBehindTheSuite X.env n pos) Q E s := by
  obtain ⟨m, hn, hv⟩ := id I.loc
  have hcls : (X.env.scope.kind == .class || (X.env.scope.kind == .module && X.env.locals != X.env.globals)) = false := by rw [I.ok.kind]; rfl
  refine wpAny_nameGoes_keeps hl hn hcls fun h' v hn' hs => ?_
  have old : ∀ b o, X.s₀.heap.get? b = some o -> b ≠ X.env.locals := fun b o e => Nat.ne_of_lt (Nat.lt_of_lt_of_le (Heap.lt_size e) I.ok.above)
  have trk : HOk X.prog X.w H h' := fun b ob e => by
    refine (I.hok b ob e).stay (fun c w' hc q => (hs.2 c ?_).trans q) (fun _ q => q) fun _ _ q => q
    rintro rfl
    rcases hc with hc | hc
    · rw [<- hc, I.free] at e; cases e
    · rw [I.free] at hc; cases hc
  refine h _ ⟨I.ok, I.os, I.bare, ⟨fun b o e nn hb hx => (hs.2 b (old b o e)).trans (I.base.keep b o e nn hb hx), fun b o e nn hb hx => ?_, I.base.free, fun b o e hx => ?_, I.base.tups, I.base.frzs, I.base.tbls⟩,
    ⟨_, hn', fun j y v' e1 e2 e3 => ?_⟩, fun y c e => ?_, I.free, I.freeC, fun p hp => ?_, trk, by simpa using I.len⟩
  · obtain ⟨sl, e1⟩ := I.base.slot b o e nn hb hx
    exact ⟨sl, (hs.2 b (old b o e)).trans e1⟩
  · obtain ⟨o', e1⟩ := I.base.there b o e hx
    exact ⟨o', (hs.2 b (old b o e)).trans e1⟩
  · by_cases hj : j = i
    · subst hj
      rw [List.getElem?_set] at e2
      simp at e2
    · rw [List.getElem?_set_ne (Ne.symm hj)] at e2
      obtain ⟨u', r', q⟩ := hv j y v' e1 e2 e3
      refine ⟨u', r', ?_⟩
      rcases q with ⟨k, e⟩ | ⟨k, c, e, z⟩
      · refine .inl ⟨k, ?_⟩
        have : y ≠ n := fun e => hj (nodup_ix hN e1 (e ▸ hi))
        simp [this, e]
      · exact .inr ⟨k, c, e, z.sameBut hs (I.cne y c e)⟩
  · obtain ⟨w2, z2⟩ := I.cell y c e
    exact ⟨w2, z2.sameBut hs (I.cne y c e)⟩
  · obtain ⟨e, nn, ne, nf, d⟩ := I.pin p hp
    exact ⟨(hs.2 p.1 ne).trans e, nn, ne, nf, d⟩
theorem land_inv {dx : Option Addr} {s1 : Shared} {h' B : Heap} {H' : Hp} {e C : Addr} {a0 : Value} (I : Inv X pins σ H s) (os : s1.os = s.os) (bare : AllBare s1.gens) (un : Un (frs X.stack) [] H H' s.heap s1.heap) (hok : HOk X.prog X.w H' s1.heap)
    (f1 : B.StaysIn s1.heap) (fl : Heap.FlyingW B X.stack e (.ref C) a0 h') (up : s1.heap.UpToSlots h') (hT : ∀ b u, H' b = some u -> ∃ o, B.get? b = some o) (hB : ∀ b o, s.heap.get? b = some o -> b ∉ frs X.stack -> ∃ o', B.get? b = some o') (he : s.heap.get? e = none) (hdx : DictIs h' e dx) :
    Inv X pins σ (upd H' e (excD C e dx)) { s1 with heap := h' } := by
  have he' : H' e = none := by
    cases q : H' e with
    | none => rfl
    | some u =>
      obtain ⟨o, z⟩ := hT e u q
      rw [fl.2.1] at z; cases z
  have ne : ∀ b o, s.heap.get? b = some o -> b ≠ e := fun b o q z => by rw [z, he] at q; cases q
  have neT : ∀ b u, H b = some u -> b ≠ e := fun b u q => by
    obtain ⟨o, z⟩ := hok_there (I.hok b u q)
    exact ne b o z
  have slot : ∀ b o, s.heap.get? b = some o -> b ∈ frs X.stack -> ∃ sl, h'.get? b = some { o with slots := sl } := fun b o q hb => by
    obtain ⟨sl, q1⟩ := un.slot b o q (I.stkFree b hb) hb (by simp)
    obtain ⟨_, o2, ho2, hd⟩ := I.stack.mem hb
    rw [q] at ho2
    cases ho2
    obtain ⟨sl', z⟩ := up b _ q1 hd
    exact ⟨sl', z⟩
  obtain ⟨k1, k2, k3, oe, vs, T, oT, ts, hoe, ⟨hcls, h0⟩, hd, _⟩ := fl
  refine I.call' (s' := { s1 with heap := h' }) (ch := []) os ⟨fun b o q n hb _ => ?_, fun b o q n hb _ => slot b o q hb, fun b o q n _ => ?_, fun b o q _ => ?_, fun b xs q => ?_, fun b o u q => ?_, fun b ps q => ?_⟩ (fun b u q => ?_) bare fun b z => absurd z (by simp)
  · obtain ⟨o', z⟩ := hB b o q hb
    exact stay_by f1 k1 z (un.keep b o q n hb (by simp))
  · rw [upd_ne (ne b o q)]; exact un.free b o q n (by simp)
  · by_cases hb : b ∈ frs X.stack
    · obtain ⟨sl, z⟩ := slot b o q hb
      exact ⟨_, z⟩
    · obtain ⟨o', z⟩ := hB b o q hb
      exact ⟨o', k1 b o' z⟩
  · rw [upd_ne (neT b _ q)]; exact un.tups b xs q
  · rw [upd_ne (neT b _ q)]; exact un.frzs b o u q
  · rw [upd_ne (neT b _ q)]; exact un.tbls b ps q
  · by_cases hb : b = e
    · subst hb
      rw [upd_same] at q
      cases q
      cases dx with
      | none => exact ⟨⟨oe, hoe, hcls, vs, hd⟩, ⟨oe, hoe⟩, fun h1 h2 ⟨o, z, r⟩ st => ⟨o, st o z, r⟩⟩
      | some d =>
        obtain ⟨o2, ho2, hd2⟩ := hdx d rfl
        rw [hoe] at ho2
        cases ho2
        exact ⟨⟨oe, hoe, hcls, ⟨vs, hd⟩, hd2⟩, ⟨oe, hoe⟩, fun h1 h2 ⟨o, z, r⟩ st => ⟨o, st o z, r⟩⟩
    · rw [upd_ne hb] at q
      refine (hok b u q).stay (fun c v hc r => ?_) (fun c r => by rw [upd_ne (ne_of_none r he')]; exact r) fun c xs r => by rw [upd_ne (ne_of_none r he')]; exact r
      have ⟨o', z⟩ : ∃ o', B.get? c = some o' := by
        rcases hc with z | z
        · rw [z]; exact hT b u q
        · exact hT c _ z
      exact stay_by f1 k1 z r
end
theorem passG_never {X : Cx} {P : Program} {w : World} : PassG (CXE P w) X (fun _ _ _ _ => False) := fun pins σ H s e s' I h => by
  obtain ⟨_, _, _, _, _, _, _, _, _, _, _, _, _, _, _, _, hE⟩ := h
  exact hE.elim
section
variable {X : Cx} {c : Addr} {i : Nat} {x n : Str} {np hpos pos : Pos} {body suite : List Stmt} {b0 : Stmt} {tb : (St -> XK) -> TS} {ts : TS}
theorem ps_try (hst : X.stack = X.env :: X.outer) (hfr : X.env.frame = some X.env.locals) (hg : Gl X x) (hm : X.mg x = some (.ref c)) (hN : X.N.Nodup) (hi : X.N[i]? = some n) (hn : X.env.scope.names.lookup n = some .local)
    (hb : ∀ pn G, PSs (tryC X pn G) body (tb G)) (hs : ∀ pn e, PSs (hndC X pn e) (b0 :: suite) ts) (hdb : (x == ("__debug__" : Str)) = false := by decide) :
    PS X (.Try body [.ExceptHandler (some (.Name x np)) (some n) (b0 :: suite) hpos] [] [] pos) (tTry X.K c i tb ts) := by
  intro pins s σ H D I h
  refine wpAny_Try_except ?_
  have okT : ∀ G, (tryC X (X.pn ++ pins) G).Ok := fun G => ⟨I.ok.mod, I.ok.kind, I.ok.glob, I.ok.blt, I.ok.above, I.ok.inj, I.ok.has, I.ok.cab, I.ok.hd, I.ok.frames, I.ok.stk, I.ok.exf, I.ok.bs, I.ok.bsz, I.ok.noex, I.ok.exfs, I.ok.funs, I.ok.frf⟩
  have okH : ∀ e, (hndC X (X.pn ++ pins) e).Ok := fun e => ⟨I.ok.mod, I.ok.kind, I.ok.glob, I.ok.blt, I.ok.above, I.ok.inj, I.ok.has, I.ok.cab, fun z => (Bool.noConfusion z), I.ok.frames, I.ok.stk, I.ok.exf, I.ok.bs, I.ok.bsz, I.ok.noex, I.ok.exfs, I.ok.funs, I.ok.frf⟩
  have I0 : ∀ G, Inv (tryC X (X.pn ++ pins) G) [] σ H s := fun G => I.like (Y := tryC X (X.pn ++ pins) G) (okT G) rfl rfl rfl rfl rfl rfl rfl rfl fun p hp => I.pin p (by simpa [tryC] using hp)
  refine wpAny_mono (hb (X.pn ++ pins) _ [] s σ H D (I0 _) h) (fun f s1 q => ?_) (fun ev s1 q => ?_)
  · cases f with
    | next =>
      obtain ⟨σ', H', J, q⟩ := q
      exact wpAny_execs_nil ⟨σ', H', J.like (Y := X) I.ok rfl rfl rfl rfl rfl rfl rfl rfl fun p hp => J.pin p (by simpa [tryC] using hp), q⟩
    | brk =>
      obtain ⟨σ', H', J, q⟩ := q
      exact ⟨σ', H', J.like (Y := X) I.ok rfl rfl rfl rfl rfl rfl rfl rfl fun p hp => J.pin p (by simpa [tryC] using hp), q⟩
    | cont =>
      obtain ⟨σ', H', J, q⟩ := q
      exact ⟨σ', H', J.like (Y := X) I.ok rfl rfl rfl rfl rfl rfl rfl rfl fun p hp => J.pin p (by simpa [tryC] using hp), q⟩
    | ret u =>
      obtain ⟨v, σ', H', J, r, q⟩ := q
      exact ⟨v, σ', H', J.like (Y := X) I.ok rfl rfl rfl rfl rfl rfl rfl rfl fun p hp => J.pin p (by simpa [tryC] using hp), r, q⟩
  · obtain ⟨σ1, H1, s0, J, e, C, a0, B, H', dx, rfl, os, bare, un, hok, fl, hT, hB, he, hdx, C', hC, hx, hts⟩ := q
    cases hC
    have he' : H' e = none := by
      cases q : H' e with
      | none => rfl
      | some u =>
        obtain ⟨o, z⟩ := hT e u q
        rw [fl.2.1] at z; cases z
    have hfrm : X.A.frames = some (X.env :: X.outer) := by rw [<- hst]; exact I.ok.frames
    have fl0 : Heap.FlyingW B (X.env :: X.outer) e (.ref C) a0 s1.heap := by rw [<- hst]; exact fl
    have toH : ∀ {σ2 : St} {H2 : Hp} {s2 : Shared}, Inv { X with pn := X.pn ++ pins, xe := fun _ _ => False } [] σ2 H2 s2 -> Inv (hndC X (X.pn ++ pins) e) [] σ2 H2 s2 := fun {σ2 H2 s2} L =>
      L.like (Y := hndC X (X.pn ++ pins) e) (okH e) rfl rfl rfl rfl rfl rfl rfl rfl fun p hp => L.pin p (by simpa [hndC] using hp)
    have toX : ∀ {σ2 : St} {H2 : Hp} {s2 : Shared}, Inv (hndC X (X.pn ++ pins) e) [] σ2 H2 s2 -> Inv X pins σ2 H2 s2 := fun {σ2 H2 s2} L =>
      L.like (Y := X) I.ok rfl rfl rfl rfl rfl rfl rfl rfl fun p hp => L.pin p (by simpa [hndC] using hp)
    have land : ∀ h', Heap.FlyingW B (X.env :: X.outer) e (.ref C) a0 h' -> s1.heap.UpToSlots h' -> DK s1.heap h' -> Inv (hndC X (X.pn ++ pins) e) [] σ1 (upd H' e (excD C e dx)) { s1 with heap := h' } := fun h' f u dk =>
      toH (land_inv J os bare un hok fl.1 (by show Heap.FlyingW B X.stack e (.ref C) a0 h'; rw [hst]; exact f) u hT hB he (hdx.dk dk))
    refine wpAny_mono (wp_kd kd_note (wpAny_looks_onW (Q := fun _ s2 => ∃ h4, s2 = { s1 with heap := h4 } /\ Heap.HeldW B (X.env :: X.outer) e (.ref C) a0 X.env.locals h4 /\ s1.heap.UpToSlots h4) hfrm hfr fl0 fun h u v => ⟨h, rfl, u, v⟩)) (fun _ s4 z => ?_) (fun _ _ z => z.1)
    obtain ⟨⟨h4, rfl, held4, up4⟩, dk4⟩ := z
    refine wpAny_mono (wp_kd kd_setFlight (wpAny_landsW (Q := fun _ s2 => ∃ h5, s2 = { s1 with heap := h5 } /\ Heap.FlyingW B (X.env :: X.outer) e (.ref C) a0 h5 /\ h4.UpToSlots h5) held4 fun h u v => ⟨h, rfl, u, v⟩)) (fun _ s5 z => ?_) (fun _ _ z => z.1)
    obtain ⟨⟨h5, rfl, fl5, up5⟩, dk5⟩ := z
    have K5 := land h5 fl5 (up4.trans up5) (dk4.trans dk5)
    refine wpAny_handleBy_cons (codeAny_handlers_test (ld_glob (X := hndC X (X.pn ++ pins) e) K5 hg hm ?_ hdb)) (by intro q; cases q)
    have LT : PySem.W.Looks (model X.prog X.w) h5 (typeOf (.ref e)) (.ref C) := by
      obtain ⟨ob, hob, hcl⟩ := fl5.there
      exact hcl ▸ (PySem.W.Looks.ld hob).andThen .now
    refine (PySem.W.exm_one (K := X.K) K5.kIn LT hx).here ?_
    refine codeAny_handlers_suite_as ?_
    refine wpAny_mono (wp_kd kd_setFlight (lands_againW (Q := fun _ s2 => ∃ h6, s2 = { s1 with heap := h6 } /\ Heap.FlyingW B (X.env :: X.outer) e (.ref C) a0 h6 /\ h5.UpToSlots h6) fl5 fun h u v => ⟨h, rfl, u, v⟩)) (fun _ s6 z => ?_) (fun _ _ z => z.1)
    obtain ⟨⟨h6, rfl, fl6, up6⟩, dk6⟩ := z
    have K6 := land h6 fl6 (up4.trans (up5.trans up6)) (dk4.trans (dk5.trans dk6))
    refine store_ok (X := hndC X (X.pn ++ pins) e) K6 hN hi (.inl hn) (v := .ref e) rfl (fun s7 K7 => ?_) (.inr hn)
    refine wpAny_mono (hs (X.pn ++ pins) e [] s7 (σ1.set i (some (.ref e))) _ _ K7 (hts e he')) (fun f s8 q8 => ?_) (fun _ _ z => z.elim)
    cases f with
    | next =>
      obtain ⟨σ8, H8, K8, q8⟩ := q8
      exact gone_ok (X := hndC X (X.pn ++ pins) e) K8 hN hi hn fun s9 K9 => ⟨_, _, toX K9, q8⟩
    | brk =>
      obtain ⟨σ8, H8, K8, q8⟩ := q8
      exact gone_ok (X := hndC X (X.pn ++ pins) e) K8 hN hi hn fun s9 K9 => ⟨_, _, toX K9, q8⟩
    | cont =>
      obtain ⟨σ8, H8, K8, q8⟩ := q8
      exact gone_ok (X := hndC X (X.pn ++ pins) e) K8 hN hi hn fun s9 K9 => ⟨_, _, toX K9, q8⟩
    | ret u =>
      obtain ⟨v, σ8, H8, K8, r8, q8⟩ := q8
      exact gone_ok (X := hndC X (X.pn ++ pins) e) K8 hN hi hn fun s9 K9 => ⟨_, _, _, toX K9, r8, q8⟩
end
end L2
namespace L2
open PySem PySem.Spec PyProof.Rows
theorem eqAt_rel {A : Around} {s : Shared} {x : V} {u v : Value} (h1 : RelV x u) (h2 : RelV x v) (hf : ∀ z, x ≠ .flt z) (hb : ∀ z, x ≠ .byt z) : SeqAt.EqAt A s u v true := by
  cases x with
  | non => cases h1; cases h2; exact SeqAt.EqAt.same _
  | bl b => cases h1; cases h2; exact SeqAt.EqAt.same _
  | int i =>
    obtain ⟨t, rfl⟩ := h1
    obtain ⟨t', rfl⟩ := h2
    have := SeqAt.EqAt.int_int (A := A) (s := s) i t i t'
    rwa [beq_self_eq_true] at this
  | str z =>
    obtain ⟨t, rfl⟩ := h1
    obtain ⟨t', rfl⟩ := h2
    have := SeqAt.EqAt.str_str (A := A) (s := s) z t z t'
    rwa [beq_self_eq_true] at this
  | byt z => exact absurd rfl (hb z)
  | flt z => exact absurd rfl (hf z)
  | ref a => cases h1; cases h2; exact SeqAt.EqAt.same _
  | ty n => cases h1; cases h2; exact SeqAt.EqAt.same _
def plainV : V -> Bool
  | .flt _ => false
  | .byt _ => false
  | _ => true
theorem vals_at {xs : List V} {us : List Value} (r : Vals xs us) {j : Nat} (h1 : j < xs.length) (h2 : j < us.length) : RelV xs[j] us[j] := by
  obtain ⟨u, e, q⟩ := r.get (i := j) (x := xs[j]) (by simp [h1])
  have : us[j]? = some us[j] := by simp [h2]
  rw [this] at e
  cases e
  exact q
end L2
namespace L2
open PySem PySem.Spec PyProof.Rows
structure DefAt (K : PySem.W.Frag) (x : Str) (st : Stmt) : Prop where
  ex : ∃ (f : Addr) (oc : Value) (od : Option Addr) (osl : Array (Option Value)) (kV doc pm : Value) (an : Option Addr) (cdv ct : Value), PySem.W.nsIn K mainGlobals x = some (some (.ref f)) /\
    K.lookup f = some ⟨oc, od, .func (PySem.W.fnOf x x (defArgs st) (defBody st) (defScope st) .none kV doc pm an cdv ct), osl⟩ /\ PySem.W.codeIn K cdv x = true /\ PySem.W.keepIn K (.ref f) = true
theorem defAt {K : PySem.W.Frag} {x : Str} {st : Stmt} {f : Addr} {oc : Value} {od : Option Addr} {osl : Array (Option Value)} {kV doc pm : Value} {an : Option Addr} {cdv ct : Value} (a : PySem.W.nsIn K mainGlobals x = some (some (.ref f)))
    (l : K.lookup f = some ⟨oc, od, .func (PySem.W.fnOf x x (defArgs st) (defBody st) (defScope st) .none kV doc pm an cdv ct), osl⟩) (c : PySem.W.codeIn K cdv x = true) (k : PySem.W.keepIn K (.ref f) = true) : DefAt K x st := ⟨⟨f, oc, od, osl, kV, doc, pm, an, cdv, ct, a, l, c, k⟩⟩
def BindAt (x : Str) (st : Stmt) (ps : List Str) : Prop := ∀ (kV doc pm : Value) (an : Option Addr) (cdv ct : Value) (us : List Value), us.length = ps.length -> bindArgs (PySem.W.fnOf x x (defArgs st) (defBody st) (defScope st) .none kV doc pm an cdv ct) ⟨us, []⟩ = pure (ps.zip us)
section
variable {P : Program} {w : World} {K : PySem.W.Frag} {mg : Str -> Option Value} {base h : Heap} {x : Str} {st : Stmt} {ps : List Str} {k : Nat} {sp : Sp}
theorem DefAt.cal (D : DefAt K x st) (X : K.In h) (G : h.Ns mainGlobals mg) (hb : BindAt x st ps) (mk : ∀ f fd, Fun K x x st f fd -> FnOk P w K mg base CX0 k f fd ps sp) : Cal P w K mg base k x ps sp := by
  obtain ⟨f, oc, od, osl, kV, doc, pm, an, cdv, ct, a, l, c, kk⟩ := D.ex
  have F := fun_mk (st := st) l c kk
  exact ⟨⟨f, _, mk f _ F, PySem.W.mg_of X G a, kk, F.binds hb⟩⟩
theorem txt_nil : Txt [] mg := ⟨fun _ h => absurd h (by simp)⟩
theorem txt_cons {y : Str} {BN : List Str} (X : K.In h) (G : h.Ns mainGlobals mg) (a : PySem.W.nsIn K mainGlobals y = some none) (r : Txt BN mg) : Txt (y :: BN) mg := ⟨fun z hz => by
  rcases List.mem_cons.mp hz with e | e
  · rw [e]; exact PySem.W.mg_none_of X G a
  · exact r.nb z e⟩
end
def cutI (ns : List Int) (lo hi : Option Int) : List Int := (ns.drop (HT.sIx ns.length 0 lo)).take (HT.sIx ns.length ns.length hi - HT.sIx ns.length 0 lo)
theorem cut_map (ns : List Int) (lo hi : Option Int) : cutV (ns.map V.int) lo hi = (cutI ns lo hi).map V.int := by
  unfold cutV cutI
  rw [List.length_map, List.map_take, List.map_drop]
end L2
namespace Mw
theorem iabs (i : Int) : (if i < 0 then -i else i) = (i.natAbs : Int) := by
  split <;> omega
theorem gcd_turn {a b : Int} (ha : 0 <= a) (hb : 0 <= b) : Int.gcd b (a % b) = Int.gcd a b := by
  have e1 : ((a.natAbs : Nat) : Int) = a := Int.natAbs_of_nonneg ha
  have e2 : ((b.natAbs : Nat) : Int) = b := Int.natAbs_of_nonneg hb
  rw [<- e1, <- e2, <- Int.natCast_emod, Int.gcd_natCast_natCast, Int.gcd_natCast_natCast, Nat.gcd_comm a.natAbs, Nat.gcd_rec b.natAbs a.natAbs]
  exact Nat.gcd_comm _ _
theorem gcd_end {a : Int} (ha : 0 <= a) : (Int.gcd a 0 : Int) = a := by rw [Int.gcd_zero_right]; exact Int.natAbs_of_nonneg ha
theorem gcd_abs (a b : Int) : Int.gcd (a.natAbs : Int) (b.natAbs : Int) = Int.gcd a b := by
  rw [Int.gcd_natCast_natCast]; rfl
def fac (t b : Int) : Int := if b < 0 then -(Int.gcd t b : Int) else (Int.gcd t b : Int)
theorem fac_ne {t b : Int} (h : b ≠ 0) : fac t b ≠ 0 := by
  have := Int.gcd_pos_of_ne_zero_right t h
  unfold fac; split <;> omega
theorem fac_dvd_left (t b : Int) : fac t b ∣ t := by
  unfold fac; split
  · exact Int.neg_dvd.mpr (Int.gcd_dvd_left t b)
  · exact Int.gcd_dvd_left t b
theorem fac_dvd_right (t b : Int) : fac t b ∣ b := by
  unfold fac; split
  · exact Int.neg_dvd.mpr (Int.gcd_dvd_right t b)
  · exact Int.gcd_dvd_right t b
theorem fac_abs (t b : Int) : (fac t b).natAbs = Int.gcd t b := by
  unfold fac; split <;> omega
def ptop (t b : Int) : Int := t / fac t b
def pbot (t b : Int) : Int := b / fac t b
theorem ptop_mul (t b : Int) : ptop t b * fac t b = t := Int.ediv_mul_cancel (fac_dvd_left t b)
theorem pbot_mul (t b : Int) : pbot t b * fac t b = b := Int.ediv_mul_cancel (fac_dvd_right t b)
theorem pbot_pos {t b : Int} (h : b ≠ 0) : 0 < pbot t b := by
  have e := pbot_mul t b
  have g := Int.gcd_pos_of_ne_zero_right t h
  rcases Int.lt_or_lt_of_ne h with hb | hb
  · have f : fac t b < 0 := by unfold fac; rw [if_pos hb]; omega
    rcases Int.lt_trichotomy (pbot t b) 0 with q | q | q
    · have := Int.mul_pos_of_neg_of_neg q f; omega
    · rw [q] at e; omega
    · exact q
  · have f : 0 < fac t b := by unfold fac; rw [if_neg (by omega)]; omega
    rcases Int.lt_trichotomy (pbot t b) 0 with q | q | q
    · have := Int.mul_neg_of_neg_of_pos q f; omega
    · rw [q] at e; omega
    · exact q
theorem part_gcd {t b : Int} (h : b ≠ 0) : Int.gcd (ptop t b) (pbot t b) = 1 := by
  unfold ptop pbot
  rw [Int.gcd_ediv (fac_dvd_left t b) (fac_dvd_right t b), fac_abs]
  exact Nat.div_self (Int.gcd_pos_of_ne_zero_right t h)
theorem part_cross {t b : Int} : ptop t b * b = t * pbot t b := by
  have e1 := ptop_mul t b
  have e2 := pbot_mul t b
  calc ptop t b * b = ptop t b * (pbot t b * fac t b) := by rw [e2]
    _ = ptop t b * fac t b * pbot t b := by rw [Int.mul_comm (pbot t b), Int.mul_assoc]
    _ = t * pbot t b := by rw [e1]
theorem ptop_fdiv (t b : Int) : t.fdiv (fac t b) = ptop t b := Int.fdiv_eq_ediv_of_dvd (fac_dvd_left t b)
theorem pbot_fdiv (t b : Int) : b.fdiv (fac t b) = pbot t b := Int.fdiv_eq_ediv_of_dvd (fac_dvd_right t b)
theorem gcd_le_right {t b : Int} (h : b ≠ 0) : Int.gcd t b <= b.natAbs := by
  have := Int.gcd_dvd_right t b
  exact Nat.le_of_dvd (by omega) (by have q := Int.natAbs_dvd_natAbs.mpr this; simpa using q)
end Mw
namespace L2
theorem iteN {c A B : Prop} [Decidable c] (hc : ¬ c) (h : A) : if (!decide c) = true then A else B := by
  rw [decide_eq_false hc]; exact iteT h
theorem iteD {c A B : Prop} [Decidable c] (h1 : c -> A) (h2 : ¬ c -> B) : if decide c = true then A else B := by
  by_cases h : c
  · rw [decide_eq_true h]; exact iteT (h1 h)
  · rw [decide_eq_false h]; exact iteF (h2 h)
end L2
namespace Mw
open PySem L2
theorem take_snoc {α : Type} {l : List α} {i : Nat} {x : α} (h : l[i]? = some x) : l.take (i + 1) = l.take i ++ [x] := by
  rw [List.take_add_one, h]; rfl
theorem of_map {α : Type} {g : α -> V} {l : List α} {i : Nat} {v : V} (h : (l.map g)[i]? = some v) : ∃ x, l[i]? = some x /\ v = g x := by
  rw [List.getElem?_map] at h
  cases e : l[i]? with
  | none => rw [e] at h; cases h
  | some x => rw [e] at h; exact ⟨x, rfl, (Option.some.inj h).symm⟩
theorem paired_get {α β : Type} {R : α -> β -> Prop} : ∀ {as : List α} {bs : List β} {i : Nat} {a : α}, Paired R as bs -> as[i]? = some a -> ∃ b, bs[i]? = some b /\ R a b
  | _, _, _, _, .nil, e => by simp at e
  | _, _, 0, _, .cons r _, e => by simp at e; subst e; exact ⟨_, rfl, r⟩
  | _, _, i + 1, a, .cons _ t, e => by
    obtain ⟨b, h1, h2⟩ := paired_get (i := i) (a := a) t (by simpa using e)
    exact ⟨b, by simpa using h1, h2⟩
theorem wk_none {σ2 : St} {n : Nat} (h : σ2.length = n) : Wk (List.replicate n none) σ2 := by
  refine ⟨by rw [h, List.length_replicate], fun i v e => ?_⟩
  rw [List.getElem?_replicate] at e
  split at e <;> cases e
theorem mul64 {i j : Int} (h1 : -18446744073709551616 < i) (h2 : i < 18446744073709551616) (h3 : -18446744073709551616 < j) (h4 : j < 18446744073709551616) : CMulB i j := by
  have e : (2 : Nat) ^ 64 = 18446744073709551616 := by decide
  refine ⟨64, by decide, ?_, ?_⟩
  · show i.natAbs < 2 ^ 64
    omega
  · show j.natAbs < 2 ^ 64
    omega
theorem div64 {i j : Int} (h1 : 0 < j) (h2 : j < 18446744073709551616) : CDivP i j := by
  have e : (2 : Nat) ^ 64 = 18446744073709551616 := by decide
  refine ⟨h1, Bits.mono (n := 64) ?_ (by decide)⟩
  show j.natAbs < 2 ^ 64
  omega
theorem paired_snoc {α β : Type} {R : α -> β -> Prop} {as : List α} {bs : List β} {a : α} {b : β} (h : Paired R as bs) (r : R a b) : Paired R (as ++ [a]) (bs ++ [b]) := Paired.snoc h r
theorem at_list {ds : List Int} {k : Nat} {z : Int} (hk : k < ds.length) (hz : z = (k : Int)) : ∃ d, d ∈ ds /\ atI (ds.map V.int) z = some (.int d) := by
  subst hz
  exact ⟨ds[k], List.getElem_mem hk, atI_nat (by rw [List.getElem?_map, List.getElem?_eq_getElem hk]; rfl)⟩
theorem kt_int {K : PySem.W.Frag} : PySem.W.kitOne K (.type "int") (.type "int") = some true := by rfl
theorem kt_bool {K : PySem.W.Frag} : PySem.W.kitOne K (.type "int") (.type "bool") = some false := by kernel_rfl
def spGcd : Sp := fun vs H Q _ => ∃ a b : Int, vs = [.int a, .int b] /\ Q (.int (Int.gcd a b)) H
end Mw
namespace L2
open PySem PySem.Spec PyProof.Rows
def tJoin (t : TS) : TS := fun D σ H => ∃ J : St -> Hp -> Prop, t { D with nx := J } σ H /\ ∀ σ' H', J σ' H' -> D.nx σ' H'
theorem ps_join {X : Cx} {st : Stmt} {t : TS} (h : PS X st t) : PS X st (tJoin t) := fun pins s σ H D I ⟨J, h1, h2⟩ => thn (h pins s σ H _ I h1) fun f s' q => by
  cases f with
  | next =>
    obtain ⟨σ', H', I', j⟩ := q
    exact ⟨σ', H', I', h2 σ' H' j⟩
  | brk => exact q
  | cont => exact q
  | ret u => exact q
theorem small9 {n : Nat} (h : n <= 1000000) : n < sizeLine := Nat.lt_of_le_of_lt h (by decide)
theorem cutI_in (ns : List Int) {lo hi : Int} (h0 : 0 <= lo) (h1 : lo <= hi) (h2 : hi <= (ns.length : Int)) : cutI ns (some lo) (some hi) = (ns.drop lo.toNat).take (hi - lo).toNat := by
  unfold cutI
  have e1 : HT.sIx ns.length 0 (some lo) = lo.toNat := by
    show (if lo < 0 then (lo + (ns.length : Int)).toNat else min lo.toNat ns.length) = lo.toNat
    rw [if_neg (by omega)]; omega
  have e2 : HT.sIx ns.length ns.length (some hi) = hi.toNat := by
    show (if hi < 0 then (hi + (ns.length : Int)).toNat else min hi.toNat ns.length) = hi.toNat
    rw [if_neg (by omega)]; omega
  rw [e1, e2]
  congr 1
  omega
section
variable {X : Cx} {x kw : Str} {p pos kpos : Pos} {e d : Expr} {es : List Expr} {t : TA} {te : TE} {id : String} {r : List V -> V -> Hp -> VK -> Prop}
theorem keeps_builtin {M : Model} {h : Heap} {id : String} (hk : keeperOf (.builtin id) = pure Keeper.machine) : ∃ k, (k = Keeper.frame \/ k = Keeper.machine \/ k = Keeper.boundFrame) /\ PySem.W.Looks M h (keeperOf (.builtin id)) k :=
  ⟨_, .inr (.inl rfl), PySem.W.Looks.of_pure hk⟩
end
end L2
namespace L2
open PySem PySem.Spec PyProof.Rows
def SpOf (C : Addr) (sp : Sp) : Sp := fun vs H Q E => (∃ (a : Addr) (us : List V) (dx : Addr) (fs : List (Str × V)), vs = .ref a :: us /\ H a = some (.ins C dx fs)) /\ sp vs H Q E
structure MCal (P : Program) (w : World) (K : PySem.W.Frag) (mg : Str -> Option Value) (base : Heap) (k : Nat) (Kd : Addr -> Prop) (m : Str) (ps : List Str) (sp : Sp) : Prop where
  ex : ∀ C, Kd C -> Cls K C /\ ∃ f fd, Meth K C m f /\ FnOk P w K mg base (CXE P w) k f fd ps (SpOf C sp) /\ Binds K fd ps []
def tMethG (Kd : Addr -> Prop) (m : Str) (sp : Sp) (G : St -> XK) (ta : TE) (t : TA) : TE := fun σ H Q => ta σ H fun x H1 => ∃ a C dx fs, x = .ref a /\ H1 a = some (.ins C dx fs) /\ Kd C /\ fs.lookup m = none /\
  t σ H1 fun vs H2 => (∃ dx2 fs2, H2 a = some (.ins C dx2 fs2)) /\ sp (x :: vs) H2 Q (G σ)
def SpInit (C : Addr) (sp : Sp) : Sp := fun vs H Q E => ∃ (x dx : Addr) (us : List V) (H1 : Hp), vs = .ref x :: us /\ H1 x = none /\ H1 dx = none /\ dx ≠ x /\ H = upd (upd H1 dx (.own x)) x (.ins C dx []) /\ sp us H1 (fun v H2 => v = .ref x -> Q .non H2) E
def SpMono (sp : Sp) : Prop := ∀ vs H (Q Q' : VK) E, (∀ v H, Q v H -> Q' v H) -> sp vs H Q E -> sp vs H Q' E
structure NCal (P : Program) (w : World) (K : PySem.W.Frag) (mg : Str -> Option Value) (base : Heap) (k : Nat) (x : Str) (ps : List Str) (sp : Sp) : Prop where
  ex : ∃ C f fd, Mk K C f /\ mg x = some (.ref C) /\ FnOk P w K mg base (CXE P w) k f fd ps (SpInit C sp) /\ Binds K fd ps []
  mono : SpMono sp
structure BCal (P : Program) (w : World) (K : PySem.W.Frag) (mg : Str -> Option Value) (base : Heap) (k : Nat) (x m : Str) (ps : List Str) (sp : Sp) : Prop where
  ex : ∃ C mc f fd, mg x = some (.ref C) /\ PySem.W.specialIn K (.ref C) "__getattribute__" = some (some (.builtin "type.__getattribute__")) /\ PySem.W.readsIn K C mc = true /\
    PySem.W.findCls K (.ref C) mc m = some (.val (.ref f)) /\ PySem.W.keepIn K (.ref f) = true /\ FnOk P w K mg base (CXE P w) k f fd ps sp /\ Binds K fd ps []
section
variable {X : Cx} {k : Nat} {f C : Addr} {fd : FuncData} {ps : List Str} {sp : Sp} {G : St -> XK} {Kd : Addr -> Prop} {x m : Str} {p pos apos : Pos} {e o : Expr} {es : List Expr} {ta : TE} {t : TA}
theorem pe_methG {pl : Sem Bool} (he : PE X o ta) (c : MCal X.prog X.w X.K X.mg X.base k Kd m ps sp) (hr : Room k X.A) (hx : PassG (CXE X.prog X.w) X G) (ha : PA X (e :: es) t)
    (hst : starEach (e :: es) X.env = (false, eval e X.env) :: starEach es X.env := by rfl) (hpl : (backTo pos (starEach es X.env)).any (·.1) = false := by rfl)
    (ht : eval (.Call (.Attribute o m apos) (e :: es) [] pos) X.env = (do
      let ov <- eval o X.env
      standAt apos.atName
      let (f, first) <- holding [ov] (getMethod ov m pl)
      callWith pos f first (backTo pos (starEach (e :: es) X.env)) (backToKw pos (keywordEach [] X.env))) := by rfl) :
    PE X (.Call (.Attribute o m apos) (e :: es) [] pos) (tMethG Kd m sp G ta t) := by
  intro pins s σ H Q I h
  refine PySem.W.methodCall_KW (pl := pl) (thn (he pins s σ H _ I h) fun u s1 ⟨x, H1, I1, rx, a, C, dx, fs, ex, ea, kd, l, q⟩ => ?_) ht
  subst ex
  obtain rfl : u = Value.ref a := rx
  obtain ⟨cl, f, fd, hm, F, hb⟩ := c.ex C kd
  refine getmeth_ok I1 ea cl hm l ?_
  refine PySem.W.callWith_K (first := [.ref a]) (h₀ := X.base) I.ok.mod.kin hm.kp (thn (ha pos pins s1 σ H1 _ I1 q) fun us s2 ⟨vs, H2, I2, r, ⟨dx2, fs2, h2⟩, q2⟩ => ⟨I2.kIn, ?_⟩) hst hpl
  exact run_fnG (us := .ref a :: us) (vs := .ref a :: vs) (dvs := []) (ds := []) F hr hb .nil hx I2 (.cons rfl r) (by rw [List.append_nil]; exact ⟨⟨a, vs, dx2, fs2, rfl, h2⟩, q2⟩)
theorem pe_methG0 {pl : Sem Bool} (he : PE X o ta) (c : MCal X.prog X.w X.K X.mg X.base k Kd m ps sp) (hr : Room k X.A) (hx : PassG (CXE X.prog X.w) X G)
    (ht : eval (.Call (.Attribute o m apos) [] [] pos) X.env = (do
      let ov <- eval o X.env
      standAt apos.atName
      let (f, first) <- holding [ov] (getMethod ov m pl)
      callWith pos f first (backTo pos (starEach [] X.env)) (backToKw pos (keywordEach [] X.env))) := by rfl) :
    PE X (.Call (.Attribute o m apos) [] [] pos) (tMethG Kd m sp G ta tNil) := by
  intro pins s σ H Q I h
  refine PySem.W.methodCall_KW (pl := pl) (thn (he pins s σ H _ I h) fun u s1 ⟨x, H1, I1, rx, a, C, dx, fs, ex, ea, kd, l, q⟩ => ?_) ht
  subst ex
  obtain rfl : u = Value.ref a := rx
  obtain ⟨cl, f, fd, hm, F, hb⟩ := c.ex C kd
  refine getmeth_ok I1 ea cl hm l ?_
  exact PySem.W.callWith_K0 (first := [.ref a]) I1.kIn hm.kp (run_fnG (us := [.ref a]) (vs := [.ref a]) (dvs := []) (ds := []) F hr hb .nil hx I1 (.cons rfl .nil) (by obtain ⟨⟨dx2, fs2, h2⟩, q2⟩ := q; exact ⟨⟨a, [], dx2, fs2, rfl, h2⟩, q2⟩))
theorem run_makeG {pins : List (Addr × Obj)} {σ : St} {H : Hp} {s : Shared} {Q : VK} {us : List Value} {vs : List V} (M : Mk X.K C f) (F : FnOk X.prog X.w X.K X.mg X.base (CXE X.prog X.w) k f fd ps (SpInit C sp)) (mo : SpMono sp) (hr : Room (k + 1) X.A) (hb : Binds X.K fd ps [])
    (hx : PassG (CXE X.prog X.w) X G) (I : Inv X pins σ H s) (r : Vals vs us) (h : sp vs H Q (G σ)) : wpAny (model X.prog X.w) X.A (call (.ref C) us) (EP X pins σ Q) X.xe s := by
  have hq : SpInit C sp (V.ref (s.heap.objs.size + 1) :: vs) (upd (upd H s.heap.objs.size (.own (s.heap.objs.size + 1))) (s.heap.objs.size + 1) (.ins C s.heap.objs.size [])) (fun v H2 => v = .non /\ Q (.ref (s.heap.objs.size + 1)) H2) (G σ) :=
    ⟨s.heap.objs.size + 1, s.heap.objs.size, vs, H, rfl, I.hok.fresh (Nat.le_succ _), I.hok.fresh (Nat.le_refl _), Nat.ne_of_lt (Nat.lt_succ_self _), rfl, mo _ _ _ _ _ (fun v H2 q e => ⟨rfl, by rw [<- e]; exact q⟩) h⟩
  have I2 := Inv.made (C := C) I
  have r2 : Vals (V.ref (s.heap.objs.size + 1) :: vs) (Value.ref (s.heap.objs.size + 1) :: us) := .cons rfl r
  have hl : (Value.ref (s.heap.objs.size + 1) :: us ++ []).length = ps.length := by
    have e := r2.length
    rw [F.len _ _ _ _ hq] at e
    rw [List.append_nil]; exact e.symm
  have hb2 := hb _ (Value.ref (s.heap.objs.size + 1) :: us) I2.kIn hl
  rw [List.append_nil] at hb2
  refine wpAny_call (make_map (f := f) I.kIn M.makes M.init (beq_iff_eq.mp M.fn) (codeAny_mono (F.run _ X.stack _ _ ⟨Value.ref (s.heap.objs.size + 1) :: us, []⟩ (Value.ref (s.heap.objs.size + 1) :: us) _ _ (G σ) (hr.make C us [])
    (I2.env0.make C us []) hb2 r2 hq) fun r s' hq' => ?_))
  cases r with
  | error e => exact hx pins σ _ _ e s' I2 hq'
  | ok fl =>
    cases fl with
    | ret u =>
      obtain ⟨v, H', I3, rv, ev, q3⟩ := I2.after hq'
      subst ev
      exact ⟨rv, ⟨V.ref (s.heap.objs.size + 1), H', I3, rfl, q3⟩⟩
    | next => exact False.elim hq'
    | brk => exact False.elim hq'
    | cont => exact False.elim hq'
theorem pe_newG (c : NCal X.prog X.w X.K X.mg X.base k x ps sp) (hr : Room (k + 1) X.A) (hg : Gl X x) (hx : PassG (CXE X.prog X.w) X G)
    (ha : PA X (e :: es) t) (hdb : (x == ("__debug__" : Str)) = false := by decide) (he : starEach (e :: es) X.env = (false, eval e X.env) :: starEach es X.env := by rfl) (hpl : (backTo pos (starEach es X.env)).any (·.1) = false := by rfl) :
    PE X (.Call (.Name x p) (e :: es) [] pos) (tCallG sp [] G t) := by
  obtain ⟨⟨C, f, fd, M, hm, F, hb⟩, mo⟩ := c
  intro pins s σ H Q I h
  refine wpAny_Call_Name_kw (ld_glob I hg hm ?_ hdb)
  refine PySem.W.callWith_K (h₀ := X.base) I.ok.mod.kin M.kp (thn (ha pos pins s σ H _ I h) fun us s1 ⟨vs, H1, I1, r, q⟩ => ⟨I1.kIn, ?_⟩) he hpl
  exact run_makeG M F mo hr hb hx I1 r (by have q2 : sp (vs ++ []) H1 Q (G σ) := q; rw [List.append_nil] at q2; exact q2)
theorem pe_baseG {pl : Sem Bool} (c : BCal X.prog X.w X.K X.mg X.base k x m ps sp) (hr : Room k X.A) (hg : Gl X x) (hx : PassG (CXE X.prog X.w) X G) (ha : PA X (e :: es) t) (hdb : (x == ("__debug__" : Str)) = false := by decide)
    (hst : starEach (e :: es) X.env = (false, eval e X.env) :: starEach es X.env := by rfl) (hpl : (backTo pos (starEach es X.env)).any (·.1) = false := by rfl)
    (ht : eval (.Call (.Attribute (.Name x p) m apos) (e :: es) [] pos) X.env = (do
      let ov <- eval (.Name x p) X.env
      standAt apos.atName
      let (f, first) <- holding [ov] (getMethod ov m pl)
      callWith pos f first (backTo pos (starEach (e :: es) X.env)) (backToKw pos (keywordEach [] X.env))) := by rfl) :
    PE X (.Call (.Attribute (.Name x p) m apos) (e :: es) [] pos) (tCallG sp [] G t) := by
  obtain ⟨C, mc, f, fd, hm, hs, hrd, hf, kp, F, hb⟩ := c.ex
  intro pins s σ H Q I h
  refine PySem.W.methodCall_KW (pl := pl) (ld_glob I hg hm ?_ hdb) ht
  refine PySem.W.method_cls I.kIn hs (PySem.W.cls_value I.kIn hrd hf rfl ?_)
  have I1 := I.tok (s.toks + 1)
  refine PySem.W.callWith_K (first := []) (h₀ := X.base) I.ok.mod.kin kp (thn (ha pos pins _ σ H _ I1 h) fun us s2 ⟨vs, H2, I2, r, q2⟩ => ⟨I2.kIn, ?_⟩) hst hpl
  exact run_fnG F hr hb .nil hx I2 r q2
end
theorem comp_range {lo : Int} {n : Nat} {fr : List (Option Nat)} {g : TG} {tc : TT} {te : TE} {D : Addr} {σ : St} {H1 : Hp} {Q : VK} (Pv : Nat -> List V -> Hp -> Prop) (h0 : Pv 0 [] (upd H1 D (.lst [])))
    (hD : ∀ i ys H, i <= n -> Pv i ys H -> H D = some (.lst ys) /\ ys.length <= i) (hn : n <= sizeLine)
    (hs : ∀ i ys H, i < n -> Pv i ys H -> g (.int (lo + i)) (carry fr σ) H fun σ2 H2 => Wk (carry fr σ) σ2 /\ tc σ2 H2 fun b H3 => if b = true then te σ2 H3 fun y H4 => H4 D = some (.lst ys) /\ Pv (i + 1) (ys ++ [y]) (upd H4 D (.lst (ys ++ [y]))) else Pv (i + 1) ys H3)
    (hd : ∀ ys H, Pv n ys H -> Q (.ref D) H) : tTurns fr g tc te D (Itr lo n) σ H1 Q := by
  refine comp_seq (n := n) Pv h0 hD (fun i ys H hi p => hi) (fun ys H p => Nat.le_refl _) hn (fun i ys H x H' hi p y => ?_) hd
  obtain ⟨e, y⟩ := y
  subst e y
  exact hs i ys _ hi p
structure ClsAt (K : PySem.W.Frag) (mg : Str -> Option Value) (x : Str) (C : Addr) : Prop where
  cl : Cls K C
  makes : PySem.W.makesIn K C = true
  kp : PySem.W.keepIn K (.ref C) = true
  g : mg x = some (.ref C)
structure MethAt (K : PySem.W.Frag) (C : Addr) (m qual : Str) (st : Stmt) : Prop where
  ex : ∃ f fd, Meth K C m f /\ Fun K m qual st f fd
structure BaseAt (K : PySem.W.Frag) (C : Addr) (m qual : Str) (st : Stmt) : Prop where
  ex : ∃ f fd, PySem.W.specialIn K (.ref C) "__getattribute__" = some (some (.builtin "type.__getattribute__")) /\ PySem.W.readsIn K C (.type "type") = true /\ PySem.W.findCls K (.ref C) (.type "type") m = some (.val (.ref f)) /\ Fun K m qual st f fd
structure ExR (K : PySem.W.Frag) (mg : Str -> Option Value) (x : Str) (C : Addr) : Prop where
  c : ExcC K C
  g : mg x = some (.ref C)
def BindQ (x qual : Str) (st : Stmt) (ps : List Str) : Prop := ∀ (kV doc pm : Value) (an : Option Addr) (cdv ct : Value) (us : List Value), us.length = ps.length -> bindArgs (PySem.W.fnOf x qual (defArgs st) (defBody st) (defScope st) .none kV doc pm an cdv ct) ⟨us, []⟩ = pure (ps.zip us)
section
variable {P : Program} {w : World} {K : PySem.W.Frag} {mg : Str -> Option Value} {base : Heap} {C : Addr} {x m qual : Str} {st : Stmt} {ps : List Str} {k : Nat} {sp : Sp}
theorem MethAt.use (h : MethAt K C m qual st) (c : Cls K C) (hb : BindQ m qual st ps) (ok : ∀ f fd, Fun K m qual st f fd -> FnOk P w K mg base (CXE P w) k f fd ps (SpOf C sp)) : Cls K C /\ ∃ f fd, Meth K C m f /\ FnOk P w K mg base (CXE P w) k f fd ps (SpOf C sp) /\ Binds K fd ps [] := by
  obtain ⟨f, fd, M, F⟩ := h.ex
  exact ⟨c, f, fd, M, ok f fd F, F.binds hb⟩
theorem ClsAt.new (c : ClsAt K mg x C) (h : MethAt K C "__init__" qual st) (hb : BindQ "__init__" qual st ps) (mo : SpMono sp) (ok : ∀ f fd, Fun K "__init__" qual st f fd -> FnOk P w K mg base (CXE P w) k f fd ps (SpInit C sp)) : NCal P w K mg base k x ps sp := by
  obtain ⟨f, fd, M, F⟩ := h.ex
  exact ⟨⟨C, f, fd, ⟨c.makes, M.at_, M.fn, c.kp⟩, c.g, ok f fd F, F.binds hb⟩, mo⟩
theorem BaseAt.use (g : mg x = some (.ref C)) (h : BaseAt K C m qual st) (hb : BindQ m qual st ps) (ok : ∀ f fd, Fun K m qual st f fd -> FnOk P w K mg base (CXE P w) k f fd ps sp) : BCal P w K mg base k x m ps sp := by
  obtain ⟨f, fd, h1, h2, h3, F⟩ := h.ex
  exact ⟨⟨C, _, f, fd, g, h1, h2, h3, F.kp, ok f fd F, F.binds hb⟩⟩
end
end L2
namespace L2
open PySem PySem.Spec PyProof.Rows
def codeO (q : Str) (c : Addr) : HO := .ext fun h => h.CodeRec (.ref c) q
def TbS (q : Str) (l c : Nat) (H : Hp) (b : Addr) : Prop := H b = some (.tbl #[]) \/ ∃ c', H b = some (.tbl #[rawInt l, rawInt c, .ref c']) /\ H c' = some (codeO q c')
theorem TbS.tbl {q : Str} {l c : Nat} {H : Hp} {b : Addr} (h : TbS q l c H b) : ∃ ps, H b = some (.tbl ps) := by
  rcases h with e | ⟨c', e, _⟩
  · exact ⟨_, e⟩
  · exact ⟨_, e⟩
theorem TbS.map {q : Str} {l c : Nat} {H H' : Hp} {b : Addr} (h : TbS q l c H b) (m1 : ∀ a ps, H a = some (.tbl ps) -> H' a = some (.tbl ps)) (m2 : ∀ a φ, H a = some (.ext φ) -> H' a = some (.ext φ)) : TbS q l c H' b := by
  rcases h with e | ⟨c', e, e'⟩
  · exact .inl (m1 _ _ e)
  · exact .inr ⟨c', m1 _ _ e, m2 _ _ e'⟩
class LamPos where
  l : Nat
  c : Nat
abbrev lamQ : Str := "SidesHand.mend.<locals>.<lambda>"
abbrev TbL [LamPos] (H : Hp) (b : Addr) : Prop := TbS lamQ LamPos.l LamPos.c H b
end L2
namespace Mw
def dot (xs ys : List Int) : Int := (List.zipWith (· * ·) xs ys).sum
theorem zip_get {xs ys : List Int} {i : Nat} {x y : Int} (h1 : xs[i]? = some x) (h2 : ys[i]? = some y) : (List.zipWith (· * ·) xs ys)[i]? = some (x * y) := by
  rw [List.getElem?_zipWith, h1, h2]
end Mw
namespace Mw
def turnF (n s : Int) : Int := if s = 1 then n else -n
end Mw
namespace Mw
open PySem L2
def spProd (K : PySem.W.Frag) : Sp := fun vs H Q _ => ∃ (a b : Addr) (b1 b2 : Bool) (xs ys : List Int), vs = [.ref a, .ref b] /\ SqB K b1 H a (xs.map V.int) /\ SqB K b2 H b (ys.map V.int) /\ xs.length <= 1000 /\ (∀ x ∈ xs, Bits 1000 x) /\ (∀ y ∈ ys, Bits 1000 y) /\
  ∀ H', Same H H' -> Q (.int (dot xs ys)) H'
def spLift (K : PySem.W.Frag) : Sp := fun vs H Q _ => ∃ (a : Addr) (xs : List Int), vs = [.ref a] /\ SqT K H a (xs.map V.int) /\ xs ≠ [] /\ xs.length <= 900 /\ ∀ r H', Same H H' -> H r = none -> H' r = some (.tup ((xs ++ [1]).map V.int)) -> Q (.ref r) H'
def spTold (K : PySem.W.Frag) : Sp := fun vs H Q _ => ∃ (a b : Addr) (b1 : Bool) (ws xs : List Int), vs = [.ref a, .ref b] /\ SqB K b1 H a (ws.map V.int) /\ SqT K H b (xs.map V.int) /\ xs ≠ [] /\ xs.length <= 900 /\ ws.length <= 1000 /\ (∀ x ∈ ws, Bits 1000 x) /\ (∀ y ∈ xs, Bits 1000 y) /\
  ∀ H', Same H H' -> Q (.int (dot ws (xs ++ [1]))) H'
def cellF (ns : List Int) (k : Nat) : Int := ns.getD k 0
theorem at_cell {ns : List Int} {k : Int} (h0 : 0 <= k) (h : k < (ns.length : Int)) : atI (ns.map V.int) k = some (.int (cellF ns k.toNat)) := by
  have e : k = (k.toNat : Int) := by omega
  have hk : k.toNat < ns.length := by omega
  rw [e, Int.toNat_natCast]
  refine atI_nat ?_
  rw [List.getElem?_map, List.getElem?_eq_getElem hk]
  unfold cellF
  simp [hk]
theorem cell_out {ns : List Int} {k : Int} (h0 : 0 <= k) (h : ¬ k < (ns.length : Int)) : cellF ns k.toNat = 0 := by
  unfold cellF
  rw [List.getD_eq_getElem?_getD, List.getElem?_eq_none (by omega)]; rfl
def spCell (K : PySem.W.Frag) : Sp := fun vs H Q _ => ∃ (a : Addr) (ns : List Int) (k : Int), vs = [.ref a, .int k] /\ SqL K H a (ns.map V.int) /\ 0 <= k /\ Q (.int (cellF ns k.toNat)) H
def spIs : Sp := fun vs H Q _ => ∃ n : Int, vs = [.int n, .int n] /\ Q (.bl true) H
theorem bits_low {x : Int} {n : Nat} (h1 : -1000 <= x) (h2 : x <= 1000) (hn : 10 <= n) : Bits n x := by
  refine Bits.mono (n := 10) ?_ hn
  show x.natAbs < 2 ^ 10
  have e : (2 : Nat) ^ 10 = 1024 := by decide
  omega
theorem bits_snoc {n : Nat} {xs : List Int} (hn : 10 <= n) (h : ∀ x ∈ xs, Bits n x) : ∀ x ∈ xs ++ [1], Bits n x := fun x hx => by
  rcases List.mem_append.mp hx with z | z
  · exact h x z
  · rw [List.mem_singleton.mp z]; exact bits_low (by decide) (by decide) hn
def RowsAt (K : PySem.W.Frag) (H : Hp) (as : List Addr) (rs : List (List Int × Int)) : Prop := Paired (fun a r => ∃ p, SqT K H a [.ref p, .int r.2] /\ SqT K H p (r.1.map V.int)) as rs
theorem RowsAt.same {K : PySem.W.Frag} {H H' : Hp} {as : List Addr} {rs : List (List Int × Int)} (e : Same H H') (h : RowsAt K H as rs) : RowsAt K H' as rs := Paired.mapP h fun _ _ ⟨p, q1, q2⟩ => ⟨p, e.seqT q1, e.seqT q2⟩
def spTurned : Sp := fun vs H Q _ => ∃ n s : Int, vs = [.int n, .int s] /\ Q (.int (turnF n s)) H
theorem paired_take {α β : Type} {R : α -> β -> Prop} : ∀ {as : List α} {bs : List β} (n : Nat), Paired R as bs -> Paired R (as.take n) (bs.take n)
  | _, _, 0, _ => by rw [List.take_zero, List.take_zero]; exact .nil
  | _, _, _ + 1, .nil => .nil
  | _, _, n + 1, .cons r t => .cons r (paired_take n t)
theorem paired_drop {α β : Type} {R : α -> β -> Prop} : ∀ {as : List α} {bs : List β} (n : Nat), Paired R as bs -> Paired R (as.drop n) (bs.drop n)
  | _, _, 0, h => h
  | _, _, _ + 1, .nil => .nil
  | _, _, n + 1, .cons _ t => paired_drop n t
def cutL {α : Type} (xs : List α) (lo hi : Option Int) : List α := (xs.drop (HT.sIx xs.length 0 lo)).take (HT.sIx xs.length xs.length hi - HT.sIx xs.length 0 lo)
theorem cutL_map {α : Type} (g : α -> V) (xs : List α) (lo hi : Option Int) : cutV (xs.map g) lo hi = (cutL xs lo hi).map g := by
  unfold cutV cutL
  rw [List.length_map, List.map_take, List.map_drop]
end Mw
namespace Mw
open PySem L2
def spMixed2 (K : PySem.W.Frag) : Sp := fun vs H Q _ => ∃ (a : Addr) (ns : List Int) (k : Int), vs = [.ref a, .int k] /\ SqL K H a (ns.map V.int) /\ 0 <= k /\ k <= 1000000 /\ ∀ z : Int, 0 <= z -> Q (.int z) H
def Below (d t : Int) : Prop := 0 <= d /\ d < t
structure TopsOk (ts : List Int) : Prop where
  len : ts.length <= 100000
  pos : ∀ t ∈ ts, 0 < t
  low : ∀ t ∈ ts, t < 18446744073709551616
def spDrawn (K : PySem.W.Frag) : Sp := fun vs H Q _ => ∃ (a b : Addr) (ns ts : List Int), vs = [.ref a, .ref b] /\ SqL K H a (ns.map V.int) /\ SqL K H b (ts.map V.int) /\ TopsOk ts /\
  ∀ r H' (ds : List Int), Same H H' -> H r = none -> H' r = some (.lst (ds.map V.int)) -> Paired Below ds ts -> Q (.ref r) H'
def PtsAt (K : PySem.W.Frag) (H : Hp) (as : List Addr) (ps : List (List Int)) : Prop := Paired (fun a p => SqT K H a (p.map V.int)) as ps
def guessV (z : Int) : V := if z = 0 then .non else .int (if 0 < z then 1 else 0)
theorem at_mem {ds : List Int} {z : Int} (h0 : 0 <= z) (h1 : z < (ds.length : Int)) : ∃ d, d ∈ ds /\ atI (ds.map V.int) z = some (.int d) := at_list (k := z.toNat) (by omega) (by omega)
theorem cutI_from (ns : List Int) {lo : Int} (h0 : 0 <= lo) (h1 : lo <= (ns.length : Int)) : cutI ns (some lo) none = ns.drop lo.toNat := by
  unfold cutI
  have e1 : HT.sIx ns.length 0 (some lo) = lo.toNat := by
    show (if lo < 0 then (lo + (ns.length : Int)).toNat else min lo.toNat ns.length) = lo.toNat
    rw [if_neg (by omega)]; omega
  rw [e1]
  show (ns.drop lo.toNat).take (ns.length - lo.toNat) = _
  rw [List.take_of_length_le (by rw [List.length_drop]; exact Nat.le_refl _)]
theorem below_rep {ds : List Int} {n : Nat} {t : Int} (h : Paired Below ds (List.replicate n t)) : ds.length = n /\ ∀ d ∈ ds, 0 <= d /\ d < t := by
  refine ⟨by rw [Paired.length h, List.length_replicate], fun d hd => ?_⟩
  obtain ⟨i, hi⟩ := List.getElem?_of_mem hd
  obtain ⟨u, hu, r⟩ := paired_get h hi
  have := List.mem_of_getElem? hu
  rw [(List.mem_replicate.mp this).2] at r
  exact r
theorem paired_len {α β : Type} {R : α -> β -> Prop} {as : List α} {bs : List β} (h : Paired R as bs) : as.length = bs.length := Paired.length h
theorem paired_split {α β : Type} {R : α -> β -> Prop} {as : List α} {bs cs : List β} (h : Paired R as (bs ++ cs)) : Paired R (as.take bs.length) bs /\ Paired R (as.drop bs.length) cs := by
  have h1 := paired_take bs.length h
  have h2 := paired_drop bs.length h
  rw [List.take_left] at h1
  rw [List.drop_left] at h2
  exact ⟨h1, h2⟩
end Mw
namespace Mw
open PySem L2
variable [LamPos]
def NotIns : HO -> Prop
  | .ins _ _ _ => False
  | .tbl _ => False
  | _ => True
def NotTb : HO -> Prop
  | .tbl _ => False
  | _ => True
structure Kp (S : List Addr) (H H' : Hp) : Prop where
  old : ∀ b o, H b = some o -> NotIns o -> H' b = some o
  but' : ∀ b o, b ∉ S -> H b = some o -> NotTb o -> H' b = some o
  has : ∀ b, H b ≠ none -> H' b ≠ none
  ts : ∀ b, TbL H b -> TbL H' b
section
variable {K : PySem.W.Frag} {S S' : List Addr} {H H' H'' : Hp} {a : Addr} {xs : List V} {b : Bool}
theorem Kp.but (k : Kp S H H') (b : Addr) (o : HO) (n : b ∉ S) (h : H b = some o) (t : NotTb o := by trivial) : H' b = some o := k.but' b o n h t
theorem Kp.of (e : Same H H') : Kp S H H' := ⟨fun b o h _ => e b o h, fun b o _ h _ => e b o h, fun b h => by
  cases hb : H b with
  | none => exact absurd hb h
  | some o => rw [e b o hb]; simp, fun b h => h.map (fun _ _ z => e _ _ z) fun _ _ z => e _ _ z⟩
theorem Kp.refl : Kp S H H := ⟨fun _ _ h _ => h, fun _ _ _ h _ => h, fun _ h => h, fun _ h => h⟩
theorem Kp.trans (h1 : Kp S H H') (h2 : Kp S H' H'') : Kp S H H'' := ⟨fun b o h n => h2.old b o (h1.old b o h n) n, fun b o n h t => h2.but' b o n (h1.but' b o n h t) t, fun b h => h2.has b (h1.has b h), fun b h => h2.ts b (h1.ts b h)⟩
theorem Kp.mono (h : Kp S H H') (m : ∀ x ∈ S, x ∈ S') : Kp S' H H' := ⟨h.old, fun b o n => h.but' b o fun z => n (m b z), h.has, h.ts⟩
theorem Kp.lst (h : Kp S H H') (e : H a = some (.lst xs)) : H' a = some (.lst xs) := h.old _ _ e True.intro
theorem Kp.tup (h : Kp S H H') (e : H a = some (.tup xs)) : H' a = some (.tup xs) := h.old _ _ e True.intro
theorem Kp.seq (h : Kp S H H') (e : SqL K H a xs) : SqL K H' a xs := by
  rcases e with (e | ⟨o, e⟩) | e
  · exact .inl (.inl (h.old _ _ e True.intro))
  · exact .inl (.inr ⟨o, h.old _ _ e True.intro⟩)
  · exact .inr e
theorem Kp.seqT (h : Kp S H H') (e : SqT K H a xs) : SqT K H' a xs := by
  rcases e with (e | ⟨o, e⟩) | e
  · exact .inl (.inl (h.old _ _ e True.intro))
  · exact .inl (.inr ⟨o, h.old _ _ e True.intro⟩)
  · exact .inr e
theorem Kp.rows {as : List Addr} {rs : List (List Int × Int)} (h : Kp S H H') (e : RowsAt K H as rs) : RowsAt K H' as rs := Paired.mapP e fun _ _ ⟨p, q1, q2⟩ => ⟨p, h.seqT q1, h.seqT q2⟩
theorem Kp.upd_ins {C dx C' dx' : Addr} {fs fs' : List (Str × V)} (h : Kp S H H') (e : H' a = some (.ins C dx fs)) (m : a ∈ S) : Kp S H (upd H' a (.ins C' dx' fs')) := by
  refine ⟨fun b o hb n => ?_, fun b o n hb tb => ?_, fun b hb => ?_, fun b hb => ?_⟩
  · have := h.old b o hb n
    rw [upd_ne (fun z => by rw [z, e] at this; cases this; exact n)]; exact this
  · rw [upd_ne (fun z => n (by rw [z]; exact m))]; exact h.but' b o n hb tb
  · by_cases z : b = a
    · rw [z, upd_same]; simp
    · rw [upd_ne z]; exact h.has b hb
  · exact (h.ts b hb).map (fun d ps z => by rw [upd_ne (fun y => by rw [y, e] at z; cases z)]; exact z) fun d φ z => by rw [upd_ne (fun y => by rw [y, e] at z; cases z)]; exact z
end
structure Hnd where
  /-- 0: mends nothing; 1: plain; 2: with a margin -/
  kd : Nat
  mg : Int
  many : Nat
  ws : List Int
  err : Nat
namespace Hnd
def prod (h : Hnd) (p : List Int) : Int := dot h.ws (p ++ [1])
def wrong (h : Hnd) (p : List Int) (s : Int) : Bool := if h.kd = 2 then decide ((2 * s - 1) * h.prod p <= h.mg) else decide (guessV (h.prod p) ≠ V.int s)
def mend (ws p : List Int) (s : Int) : List Int := List.zipWith (fun w x => w + (2 * s - 1) * x) ws (p ++ [1])
def step (h : Hnd) (p : List Int) (s : Int) : Hnd := if h.wrong p s = true then { h with ws := if h.kd = 0 then h.ws else mend h.ws p s, err := h.err + 1 } else h
def new (kd : Nat) (mg : Int) (many : Nat) : Hnd := ⟨kd, mg, many, List.replicate (many + 1) 0, 0⟩
structure Ok (h : Hnd) : Prop where
  k3 : h.kd < 3
  pos : 0 < h.many
  few : h.many <= 4
  len : h.ws.length = h.many + 1
  low : ∀ w ∈ h.ws, w.natAbs <= 1000 * h.err
structure PtOk (h : Hnd) (p : List Int) : Prop where
  len : p.length = h.many
  low : ∀ x ∈ p, -1000 <= x /\ x <= 1000
theorem new_ok {kd : Nat} {mg : Int} {many : Nat} (h3 : kd < 3) (h0 : 0 < many) (h4 : many <= 4) : Ok (new kd mg many) :=
  ⟨h3, h0, h4, by unfold new; simp, fun w hw => by unfold new at hw; rw [(List.mem_replicate.mp hw).2]; simp⟩
theorem low_snoc {p : List Int} (h : ∀ x ∈ p, -1000 <= x /\ x <= 1000) : ∀ x ∈ p ++ [1], -1000 <= x /\ x <= 1000 := fun x hx => by
  rcases List.mem_append.mp hx with z | z
  · exact h x z
  · rw [List.mem_singleton.mp z]; decide
theorem mend_mem {s : Int} (hs : s = 0 \/ s = 1) {n : Nat} : ∀ {ws xs : List Int}, (∀ w ∈ ws, w.natAbs <= n) -> (∀ x ∈ xs, -1000 <= x /\ x <= 1000) -> ∀ z ∈ List.zipWith (fun w x => w + (2 * s - 1) * x) ws xs, z.natAbs <= n + 1000
  | [], _, _, _, z, hz => by simp at hz
  | _ :: _, [], _, _, z, hz => by simp at hz
  | w :: ws, x :: xs, h1, h2, z, hz => by
    rw [List.zipWith_cons_cons] at hz
    rcases List.mem_cons.mp hz with e | e
    · have a1 := h1 w (List.mem_cons_self ..)
      have a2 := h2 x (List.mem_cons_self ..)
      rcases hs with rfl | rfl
      · have : (2 * 0 - 1 : Int) * x = -x := by omega
        rw [e, this]; omega
      · have : (2 * 1 - 1 : Int) * x = x := by omega
        rw [e, this]; omega
    · exact mend_mem hs (fun w hw => h1 w (List.mem_cons_of_mem _ hw)) (fun x hx => h2 x (List.mem_cons_of_mem _ hx)) z e
theorem mend_len {ws p : List Int} {s : Int} (h : ws.length = p.length + 1) : (mend ws p s).length = p.length + 1 := by
  unfold mend
  rw [List.length_zipWith, List.length_append, h]
  exact Nat.min_self _
theorem step_many (h : Hnd) (p : List Int) (s : Int) : (h.step p s).many = h.many := by unfold step; split <;> rfl
theorem Ok.step {h : Hnd} {p : List Int} {s : Int} (o : Ok h) (q : PtOk h p) (hs : s = 0 \/ s = 1) : Ok (h.step p s) := by
  unfold Hnd.step
  split
  · refine ⟨o.k3, o.pos, o.few, ?_, fun w hw => ?_⟩
    · show (if h.kd = 0 then h.ws else mend h.ws p s).length = _
      split
      · exact o.len
      · rw [mend_len (by rw [o.len, q.len]), q.len]
    · show w.natAbs <= 1000 * (h.err + 1)
      have hw' : w ∈ (if h.kd = 0 then h.ws else mend h.ws p s) := hw
      split at hw'
      · have := o.low w hw'; omega
      · have := mend_mem hs o.low (low_snoc q.low) w hw'; omega
  · exact o
end Hnd
structure HandI where
  At : Hp -> Addr -> Hnd -> Prop
  Kd : Addr -> Prop
  ins : ∀ {H a h}, At H a h -> ∃ C dx fs, H a = some (.ins C dx fs) /\ Kd C /\ fs.lookup ("tells" : Str) = none /\ fs.lookup ("put" : Str) = none /\ fs.lookup ("weights" : Str) = none /\ fs.lookup ("mistakes" : Str) = none
  keep : ∀ {S H H' a h}, At H a h -> Kp S H H' -> a ∉ S -> At H' a h
section
variable (K : PySem.W.Frag) (I : HandI) (np ns : Addr)
def spNew (kd : Nat) : Sp := fun vs H Q _ => ∃ (m : Nat) (g : Int), vs = (if kd = 2 then [V.int m, .int g] else [V.int m]) /\ 0 < m /\ m <= 4 /\ ∀ r H', Same H H' -> H r = none -> I.At H' r (Hnd.new kd g m) -> Q (.ref r) H'
abbrev errTop : Nat := 1000000
end
theorem spNew_mono {I : HandI} {kd : Nat} : SpMono (spNew I kd) := fun vs H Q Q' E m ⟨n, g, e, h0, h1, q⟩ => ⟨n, g, e, h0, h1, fun r H' s n2 w => m _ _ (q r H' s n2 w)⟩
end Mw
namespace Mw
open PySem L2
variable [LamPos]
theorem iteND {c A B : Prop} [Decidable c] (h1 : ¬ c -> A) (h2 : c -> B) : if (!decide c) = true then A else B := by
  by_cases h : c
  · rw [decide_eq_true h]; exact h2 h
  · rw [decide_eq_false h]; exact h1 h
end Mw
namespace Mw
open PySem L2
variable [LamPos]
theorem iteB {b : Bool} {A B : Prop} (h1 : b = true -> A) (h2 : b = false -> B) : if b = true then A else B := by
  cases b
  · rw [if_neg (by simp)]; exact h2 rfl
  · rw [if_pos rfl]; exact h1 rfl
theorem zipWith_get {α β γ : Type} {f : α -> β -> γ} {xs : List α} {ys : List β} {i : Nat} {x : α} {y : β} (h1 : xs[i]? = some x) (h2 : ys[i]? = some y) : (List.zipWith f xs ys)[i]? = some (f x y) := by
  rw [List.getElem?_zipWith, h1, h2]
end Mw
namespace Mw
open PySem L2
variable [LamPos]
theorem Hnd.bits {h : Hnd} (o : h.Ok) (e : h.err <= errTop) : ∀ w ∈ h.ws, Bits 1000 w := fun w hw => by
  have := o.low w hw
  refine Bits.mono (n := 40) ?_ (by decide)
  show w.natAbs < 2 ^ 40
  have e2 : (2 : Nat) ^ 40 = 1099511627776 := by decide
  have e3 : errTop = 1000000 := rfl
  omega
theorem Hnd.ptbits {h : Hnd} {xs : List Int} (q : h.PtOk xs) : ∀ x ∈ xs, Bits 1000 x := fun x hx => bits_low (q.low x hx).1 (q.low x hx).2 (by decide)
end Mw
namespace Mw
open PySem L2
variable [LamPos]
theorem putF_len {f : Str} {y : V} : ∀ {fs : List (Str × V)} {v : V}, fs.lookup f = some v -> (putF f y fs).length = fs.length
  | [], v, h => by simp at h
  | (g, x) :: r, v, h => by
    unfold putF
    by_cases e : g = f
    · rw [if_pos e]; rfl
    · rw [if_neg e, List.length_cons, List.length_cons]
      have e2 : (f == g) = false := by
        cases z : (f == g)
        · rfl
        · exact absurd (beq_iff_eq.mp z).symm e
      simp only [List.lookup, e2] at h
      rw [putF_len h]
end Mw
namespace L2
open PySem PySem.Spec PyProof.Rows
def OffD (D : Addr) (H H' : Hp) : Prop := ∀ b o, b ≠ D -> H b = some o -> H' b = some o
theorem OffD.of {D : Addr} {H H' : Hp} (s : Same H H') : OffD D H H' := fun b o _ h => s b o h
theorem OffD.upd {D : Addr} {H : Hp} {o : HO} : OffD D H (upd H D o) := fun b u n h => by rw [upd_ne n]; exact h
section
variable {K : PySem.W.Frag} {fr : List (Option Nat)} {g : TG} {te : TE} {D : Addr} {σ : St} {H1 : Hp} {Q : VK}
theorem snoc_get {ys : List V} {z : V} {P : Nat -> V -> Prop} (h : ∀ (j : Nat) y, ys[j]? = some y -> P j y) (hz : P ys.length z) : ∀ (j : Nat) y, (ys ++ [z])[j]? = some y -> P j y := fun j y e => by
  by_cases hj : j < ys.length
  · rw [List.getElem?_append_left hj] at e; exact h j y e
  · have h2 : j = ys.length := by
      have := (List.getElem?_eq_some_iff.mp e).1
      rw [List.length_append] at this
      simp at this
      omega
    subst h2
    rw [List.getElem?_append_right (Nat.le_refl _), Nat.sub_self] at e
    have : z = y := by simpa using e
    rw [<- this]; exact hz
theorem comp_list_rel {a : Addr} {xs : List V} (Rl : Hp -> Nat -> V -> Prop) (mono : ∀ H H' i y, OffD D H H' -> Rl H i y -> Rl H' i y) (hq : SqL K H1 a xs) (hn : xs.length <= sizeLine) (hD : H1 D = none)
    (hs : ∀ (i : Nat) x H (R : VK), xs[i]? = some x -> Same H1 H -> H D ≠ none -> (∀ y H', Same H H' -> Rl H' i y -> R y H') -> g x (carry fr σ) H fun σ2 H2 => Wk (carry fr σ) σ2 /\ te σ2 H2 R)
    (q : ∀ ys H', Same H1 H' -> H' D = some (.lst ys) -> ys.length = xs.length -> (∀ (j : Nat) y, ys[j]? = some y -> Rl H' j y) -> Q (.ref D) H') : tTurns fr g tYes te D (Itl K a) σ H1 Q := by
  refine comp_list (xs := xs) (fun i ys H => Same H1 H /\ H D = some (.lst ys) /\ ys.length = i /\ ∀ (j : Nat) y, ys[j]? = some y -> Rl H j y) ⟨Same.new hD _, upd_same, rfl, fun j y e => by simp at e⟩
    (fun i ys H hi ⟨_, e, p, _⟩ => ⟨e, by omega⟩) (fun i ys H hi ⟨e, _, _⟩ => e.seq hq) hn ?_ (fun ys H ⟨e1, e2, e3, e4⟩ => q ys H e1 e2 e3 e4)
  rintro i x ys H hx ⟨e1, e2, e3, e4⟩
  refine hs i x H _ hx e1 (by rw [e2]; simp) (fun y H' s r => ⟨s _ _ e2, (e1.trans s).upd_old hD, upd_same, by rw [List.length_append, e3]; rfl, ?_⟩)
  exact snoc_get (fun j u e => mono _ _ _ _ OffD.upd (mono _ _ _ _ (OffD.of s) (e4 j u e))) (by rw [e3]; exact mono _ _ _ _ OffD.upd r)
theorem comp_tup_rel {a : Addr} {xs : List V} (Rl : Hp -> Nat -> V -> Prop) (mono : ∀ H H' i y, OffD D H H' -> Rl H i y -> Rl H' i y) (hq : SqT K H1 a xs) (hn : xs.length <= sizeLine) (hD : H1 D = none)
    (hs : ∀ (i : Nat) x H (R : VK), xs[i]? = some x -> Same H1 H -> H D ≠ none -> (∀ y H', Same H H' -> Rl H' i y -> R y H') -> g x (carry fr σ) H fun σ2 H2 => Wk (carry fr σ) σ2 /\ te σ2 H2 R)
    (q : ∀ ys H', Same H1 H' -> H' D = some (.lst ys) -> ys.length = xs.length -> (∀ (j : Nat) y, ys[j]? = some y -> Rl H' j y) -> Q (.ref D) H') : tTurns fr g tYes te D (Itt K a) σ H1 Q := by
  refine comp_tup (xs := xs) (fun i ys H => Same H1 H /\ H D = some (.lst ys) /\ ys.length = i /\ ∀ (j : Nat) y, ys[j]? = some y -> Rl H j y) ⟨Same.new hD _, upd_same, rfl, fun j y e => by simp at e⟩
    (fun i ys H hi ⟨_, e, p, _⟩ => ⟨e, by omega⟩) (fun i ys H hi ⟨e, _, _⟩ => e.seqT hq) hn ?_ (fun ys H ⟨e1, e2, e3, e4⟩ => q ys H e1 e2 e3 e4)
  rintro i x ys H hx ⟨e1, e2, e3, e4⟩
  refine hs i x H _ hx e1 (by rw [e2]; simp) (fun y H' s r => ⟨s _ _ e2, (e1.trans s).upd_old hD, upd_same, by rw [List.length_append, e3]; rfl, ?_⟩)
  exact snoc_get (fun j u e => mono _ _ _ _ OffD.upd (mono _ _ _ _ (OffD.of s) (e4 j u e))) (by rw [e3]; exact mono _ _ _ _ OffD.upd r)
theorem comp_range_rel {lo : Int} {n : Nat} (Rl : Hp -> Nat -> V -> Prop) (mono : ∀ H H' i y, OffD D H H' -> Rl H i y -> Rl H' i y) (hn : n <= sizeLine) (hD : H1 D = none)
    (hs : ∀ (i : Nat) H (R : VK), i < n -> Same H1 H -> H D ≠ none -> (∀ y H', Same H H' -> Rl H' i y -> R y H') -> g (.int (lo + i)) (carry fr σ) H fun σ2 H2 => Wk (carry fr σ) σ2 /\ te σ2 H2 R)
    (q : ∀ ys H', Same H1 H' -> H' D = some (.lst ys) -> ys.length = n -> (∀ (j : Nat) y, ys[j]? = some y -> Rl H' j y) -> Q (.ref D) H') : tTurns fr g tYes te D (Itr lo n) σ H1 Q := by
  refine comp_range (n := n) (fun i ys H => Same H1 H /\ H D = some (.lst ys) /\ ys.length = i /\ ∀ (j : Nat) y, ys[j]? = some y -> Rl H j y) ⟨Same.new hD _, upd_same, rfl, fun j y e => by simp at e⟩
    (fun i ys H hi ⟨_, e, p, _⟩ => ⟨e, by omega⟩) hn ?_ (fun ys H ⟨e1, e2, e3, e4⟩ => q ys H e1 e2 e3 e4)
  rintro i ys H hi ⟨e1, e2, e3, e4⟩
  refine hs i H _ hi e1 (by rw [e2]; simp) (fun y H' s r => ⟨s _ _ e2, (e1.trans s).upd_old hD, upd_same, by rw [List.length_append, e3]; rfl, ?_⟩)
  exact snoc_get (fun j u e => mono _ _ _ _ OffD.upd (mono _ _ _ _ (OffD.of s) (e4 j u e))) (by rw [e3]; exact mono _ _ _ _ OffD.upd r)
theorem comp_zip_rel {b1 b2 : Bool} {a1 a2 : Addr} {us vs : List V} (Rl : Hp -> Nat -> V -> Prop) (mono : ∀ H H' i y, OffD D H H' -> Rl H i y -> Rl H' i y) (h1 : SqB K b1 H1 a1 us) (h2 : SqB K b2 H1 a2 vs) (hn : us.length <= sizeLine) (hD : H1 D = none)
    (hs : ∀ (i : Nat) x y T H (R : VK), us[i]? = some x -> vs[i]? = some y -> Same H1 H -> H D ≠ none -> H T = none -> (∀ z H', Same (upd H T (.tup [x, y])) H' -> Rl H' i z -> R z H') -> g (.ref T) (carry fr σ) (upd H T (.tup [x, y])) fun σ2 H2 => Wk (carry fr σ) σ2 /\ te σ2 H2 R)
    (q : ∀ ys H', Same H1 H' -> H' D = some (.lst ys) -> ys.length = min us.length vs.length -> (∀ (j : Nat) y, ys[j]? = some y -> Rl H' j y) -> Q (.ref D) H') : tTurns fr g tYes te D (Itz K b1 b2 a1 a2) σ H1 Q := by
  refine comp_zip (us := us) (vs := vs) (fun i ys H => Same H1 H /\ H D = some (.lst ys) /\ ys.length = i /\ ∀ (j : Nat) y, ys[j]? = some y -> Rl H j y) ⟨Same.new hD _, upd_same, rfl, fun j y e => by simp at e⟩
    (fun i ys H hi ⟨_, e, p, _⟩ => ⟨e, by omega⟩) (fun i ys H hi ⟨e, _, _⟩ => ⟨e.seqB h1, e.seqB h2⟩) hn ?_ (fun ys H ⟨e1, e2, e3, e4⟩ => q ys H e1 e2 e3 e4)
  rintro i x y T ys H hx hy hT ⟨e1, e2, e3, e4⟩
  refine hs i x y T H _ hx hy e1 (by rw [e2]; simp) hT (fun z H' s r => ⟨s _ _ (by rw [upd_ne (ne_of_none e2 hT)]; exact e2), ((e1.trans (Same.new hT _)).trans s).upd_old hD, upd_same, by rw [List.length_append, e3]; rfl, ?_⟩)
  exact snoc_get (fun j u e => mono _ _ _ _ OffD.upd (mono _ _ _ _ (OffD.of ((Same.new hT _).trans s)) (e4 j u e))) (by rw [e3]; exact mono _ _ _ _ OffD.upd r)
end
theorem ys_map {α : Type} {g : α -> V} {rs : List α} {ys : List V} (hl : ys.length = rs.length) (h : ∀ (j : Nat) y r, ys[j]? = some y -> rs[j]? = some r -> y = g r) : ys = rs.map g := by
  refine List.ext_getElem? fun j => ?_
  rw [List.getElem?_map]
  by_cases hj : j < ys.length
  · rw [List.getElem?_eq_getElem hj, List.getElem?_eq_getElem (by omega)]
    exact congrArg some (h j _ _ (List.getElem?_eq_getElem hj) (List.getElem?_eq_getElem (by omega)))
  · rw [List.getElem?_eq_none (by omega), List.getElem?_eq_none (by omega)]; rfl
theorem wk1 {σ : St} {v : V} {n : Nat} {w : V} (h : σ[n]? = some (some w)) : Wk (carry [none, some n] σ) [some v, some w] := by
  refine ⟨rfl, fun k u e => ?_⟩
  have e0 : carry [none, some n] σ = [none, some w] := by simp [carry, h]
  rw [e0] at e
  match k, e with
  | 0, e => simp at e
  | 1, e => exact e
  | k + 2, e => simp at e
section
variable {X : Cx}
theorem call_maxL (hc : X.calm = true) : CallR X (.builtin "max") (fun xs H Q => ∃ (a : Addr) (ns : List Int), xs = [.ref a] /\ SqL X.K H a (ns.map V.int) /\ 0 < ns.length /\ ∀ m, m ∈ ns -> (∀ b ∈ ns, b <= m) -> Q (.int m) H) := by
  intro pins s σ H xs us Q I r h
  obtain ⟨a, ns, rfl, hs, hn, q⟩ := h
  obtain ⟨u, rfl, r1⟩ := vals1 r
  obtain rfl : u = Value.ref a := r1
  obtain ⟨its, rv, p, hz⟩ := I.list hs
  obtain ⟨zs, e⟩ := (intsAre_of rv).allInts.items
  have hns : ns = zs.toList.map (·.1) := by rw [<- (intsAre_of rv).numsOf, <- nums_intItems, <- e]
  have hsz : 0 < zs.size := by have h3 := hn; rw [hns, List.length_map, Array.length_toList] at h3; exact h3
  have hl := p.isList
  rw [e] at hl
  refine max_intList (I.ok.hd hc) hl hsz fun v h' tk hv hk => ?_
  obtain ⟨t, rfl⟩ := intItems_at hv
  obtain ⟨h1, h2⟩ := argBest_gt (numAt zs) (zs.size - 1)
  have e3 : ∀ k, k < zs.size -> numAt zs k ∈ ns := fun k hk => by
    rw [hns]
    refine List.mem_map.mpr ⟨zs[k], by simp, ?_⟩
    simp [numAt, hk]
  have e4 : ∀ b ∈ ns, ∃ k, k < zs.size /\ numAt zs k = b := fun b hb => by
    rw [hns] at hb
    obtain ⟨y, hy, rfl⟩ := List.mem_map.mp hb
    obtain ⟨k, hk, hk2⟩ := List.getElem_of_mem hy
    have hk' : k < zs.size := by simpa using hk
    refine ⟨k, hk', ?_⟩
    simp [numAt, hk', <- hk2]
  refine ⟨.int (numAt zs (argBest (fun i j => decide (numAt zs i > numAt zs j)) (zs.size - 1))), H, I.kept hk, ⟨_, rfl⟩, q _ (e3 _ (by omega)) fun b hb => ?_⟩
  obtain ⟨k, hk1, rfl⟩ := e4 b hb
  exact h2 k (by omega)
end
end L2
namespace Mw
open PySem L2
variable [LamPos]
theorem rows_of {K : PySem.W.Frag} {H : Hp} : ∀ {ys : List V} {rs : List (List Int × Int)}, ys.length = rs.length -> (∀ (j : Nat) y r, ys[j]? = some y -> rs[j]? = some r -> ∃ t p, y = .ref t /\ SqT K H t [.ref p, .int r.2] /\ SqT K H p (r.1.map V.int)) -> ∃ as : List Addr, ys = as.map V.ref /\ RowsAt K H as rs
  | [], [], _, _ => ⟨[], rfl, .nil⟩
  | y :: ys, r :: rs, hl, h => by
    obtain ⟨t, p, e, h1, h2⟩ := h 0 y r rfl rfl
    obtain ⟨as, e2, h3⟩ := rows_of (ys := ys) (rs := rs) (by simpa using hl) fun j y r a b => h (j + 1) y r (by simpa using a) (by simpa using b)
    exact ⟨t :: as, by rw [e, e2]; rfl, .cons ⟨p, h1, h2⟩ h3⟩
end Mw
namespace L2
open PySem PySem.Spec PyProof.Rows
section
variable {K : PySem.W.Frag} {fr : List (Option Nat)} {g : TG} {tc : TT} {te : TE} {D : Addr} {σ : St} {H1 : Hp} {Q : VK}
def picked (p : Nat -> Bool) (f : Nat -> V) (i : Nat) : List V := ((List.range i).filter p).map f
theorem picked_succ (p : Nat -> Bool) (f : Nat -> V) (i : Nat) : picked p f (i + 1) = if p i = true then picked p f i ++ [f i] else picked p f i := by
  unfold picked
  rw [List.range_succ, List.filter_append, List.map_append]
  by_cases h : p i = true
  · rw [if_pos h]; simp [h]
  · rw [if_neg h]; simp [h]
theorem picked_len (p : Nat -> Bool) (f : Nat -> V) (i : Nat) : (picked p f i).length <= i := by
  unfold picked
  rw [List.length_map]
  exact Nat.le_trans (List.length_filter_le _ _) (by rw [List.length_range]; exact Nat.le_refl _)
end
end L2
namespace Mw
open PySem L2
variable [LamPos]
structure HandG (S : Type) where
  At : Hp -> Addr -> S -> Prop
  Kd : Addr -> Prop
  ins : ∀ {H a h}, At H a h -> ∃ C dx fs, H a = some (.ins C dx fs) /\ Kd C /\ fs.lookup ("tells" : Str) = none /\ fs.lookup ("put" : Str) = none /\ fs.lookup ("weights" : Str) = none /\ fs.lookup ("mistakes" : Str) = none
  keep : ∀ {L H H' a h}, At H a h -> Kp L H H' -> a ∉ L -> At H' a h
  /-- a list that isn't the hand's is written to -/
  keepL : ∀ {H H' a h D xs}, At H a h -> H D = some (.lst xs) -> OffD D H H' -> At H' a h
  /-- what a hand's making wants of the heap -/
  Ts : Hp -> Prop
  ts : ∀ {L H H'}, Ts H -> Kp L H H' -> Ts H'
end Mw
namespace L2
open PySem PySem.Spec PyProof.Rows
def tFstr (t : TE) : TE := fun σ H Q => t σ H fun v H1 => ∃ i : Int, v = .int i /\ Bits 1900 i /\ ∀ y, Q (.str y) H1
theorem pe_fstr {X : Cx} {e : Expr} {t : TE} {x : Str} {k : Nat} {p0 p1 p2 : Pos} (he : PE X e t) (hx : x.length <= 1000) :
    PE X (.JoinedStr [.Constant (.str x) k p0, .FormattedValue e (-1) none p1] p2) (tFstr t) := by
  intro pins s σ H Q I h
  refine JoinedStr_many (joinParts_cons (Calls.Constant_str ?_))
  have z0 : (Str.empty : Str).length = 0 := rfl
  have z1 : (Str.empty ++ x).length <= 1000 := by rw [strLen_append, z0]; omega
  refine ⟨Nat.le_trans z1 (by rw [sizeLine_eq]; decide), ?_⟩
  refine joinParts_cons (FormattedValue_plain (thn (he pins _ σ H _ (I.tok _) h) fun u s1 ⟨v, H1, I1, rv, i, e1, hb, q⟩ => ?_))
  subst e1
  obtain ⟨tk, rfl⟩ := rv
  have hd : i.natAbs.log2 < 1920 := by
    by_cases z : i.natAbs = 0
    · rw [z]; decide
    · exact (Nat.log2_lt z).mpr (Nat.lt_of_lt_of_le hb (Nat.pow_le_pow_right (by decide) (by decide)))
  refine formatField_int_small hd ?_
  have z2 := int_text_length_le (k := 1920) (by decide) hd
  have z3 : (Str.empty ++ x ++ (Str.ofString (toString i))).length <= sizeLine := by
    rw [strLen_append, PySem.ofString_length, sizeLine_eq]; omega
  exact ⟨z3, joinParts_nil ⟨.str _, H1, I1.tok _, ⟨_, rfl⟩, q _⟩ z3⟩
section
variable {X : Cx} {K : PySem.W.Frag}
theorem op_inK (hK : X.K = K) : OpR X (compareOp .In) (rIn K false) := by subst hK; exact op_in_seq
end
end L2
namespace L2
open PySem PySem.Spec PyProof.Rows PySem.AutoSeq1
theorem tuple_mul2 (l : Addr) (items : Array Value) (n : Nat) (dd : Option Addr) (sl : Array (Option Value)) (x : Int) (u : Tok) (h0 : ¬(items.isEmpty || x == 1) = true) (h1 : ¬(decide (x < -(2 ^ 63)) || decide (x >= 2 ^ 63)) = true) (h2 : ¬(decide (x <= 0) || items.isEmpty) = true)
    (h3 : ¬((items.size : Int) * x > (2 ^ 63 - 1) / 8)) (h4 : ¬Builtin.Tuple.tupleTooMany ((items.size : Int) * x) = true) (hsz : (List.foldl (fun x1 x2 => x1 ++ x2) #[] (List.replicate x.toNat items)).size <= sizeLine) :
    Meets (Builtin.«tuple.__mul__» ⟨[.ref l, .int x u], []⟩) (fun _ R s => s.heap.get? l = some { cls := .type "tuple", dict := dd, data := .seq items n, slots := sl } /\ R (.ok (.ret (Value.ref s.heap.objs.size))) { s with heap := s.heap.push { cls := Value.type "tuple", data := Data.seq (List.foldl (fun x1 x2 => x1 ++ x2) #[] (List.replicate x.toNat items)) }, toks := s.toks }) :=
  .of_wp fun prog w A R s h => by
    obtain ⟨hp, g, d, tk, os⟩ := s; obtain ⟨hl, h⟩ := h
    have f1 := AutoSeq1.idx_int
    wp_walk using wpAny_loadPart' hl
    refine wpAny_ite_false (decide_eq_false h1) ?_
    wp_walk using wpAny_loadPart' hl
    refine wpAny_ite_false (decide_eq_false h3) ?_
    wp_walk using wpAny_loadPart' hl
    exact ⟨_, rfl, h⟩
theorem tuple_mul1 (l : Addr) (items : Array Value) (n : Nat) (dd : Option Addr) (sl : Array (Option Value)) (u : Tok) (hc : (items.isEmpty || (1 : Int) == 1) = true) (hc1 : ¬(decide ((1 : Int) < -(2 ^ 63)) || decide ((1 : Int) >= 2 ^ 63)) = true) :
    Meets (Builtin.«tuple.__mul__» ⟨[.ref l, .int 1 u], []⟩) (fun _ R s => s.heap.get? l = some { cls := .type "tuple", dict := dd, data := .seq items n, slots := sl } /\ R (.ok (.ret (Value.ref l))) s) :=
  .of_wp fun prog w A R s h => by
    obtain ⟨hp, g, d, tk, os⟩ := s; obtain ⟨hl, h⟩ := h
    have f1 := AutoSeq1.idx_int
    wp_walk using wpAny_loadPart' hl
    exact ⟨_, rfl, h⟩
theorem noFill_tuple_mul : fillsNumberSlot (.type "tuple") "mul" = pure false :=
  PySem.fillsNumberSlot_seq (id := "tuple.__mul__") (r := some (.builtin "tuple.__rmul__")) F.slot_tuple_mul.lookup (by decide +kernel) F.slot_tuple_rmul.lookup (by decide +kernel)
theorem repeat_tuple : seqRepeat? (.type "tuple") = pure (some (.builtin "tuple.__mul__")) := by
  unfold seqRepeat?
  rw [PySem.seqSlot_of (T := "tuple") (name := "__mul__") (id := "tuple.__mul__") F.slot_tuple_mul.lookup (by decide +kernel), PySem.seqSlot_of (T := "tuple") (name := "__rmul__") (id := "tuple.__rmul__") F.slot_tuple_rmul.lookup (by decide +kernel)]
  rfl
theorem int_rmul_tuple (a : Int) (t : Tok) (l : Addr) (items : Array Value) (n : Nat) (dd : Option Addr) (sl : Array (Option Value)) :
    Meets (Builtin.«int.__rmul__» ⟨[.int a t, .ref l], []⟩) (fun _ R s => s.heap.get? l = some { cls := .type "tuple", dict := dd, data := .seq items n, slots := sl } /\ R (.ok (.ret Value.notImplemented)) s) :=
  .of_wp fun prog w A R s h => by obtain ⟨hp, g, d, tk, os⟩ := s; obtain ⟨hl, h⟩ := h; wp_walk; exact ⟨_, rfl, h⟩
def rRepT (K : PySem.W.Frag) : R2 := fun x y H Q => ∃ a n xs, x = .ref a /\ y = .int n /\ SqT K H a xs /\ xs ≠ [] /\ 1 <= n /\ n <= 1000 /\ xs.length <= 1000 /\ (n = 1 -> Q (.ref a) H) /\ (n ≠ 1 -> ∀ p, H p = none -> Q (.ref p) (upd H p (.tup (List.replicate n.toNat xs).flatten)))
theorem op_repT {X : Cx} : OpR X (binaryOp .Mult) (rRepT X.K) := by
  intro pins s σ H x y v u Q I rx ry h
  obtain ⟨l, k, xs, rfl, rfl, hH, hne, h1, h2, hz, q1, q2⟩ := h
  cases rx
  obtain ⟨t, rfl⟩ := ry
  obtain ⟨its, r, tp, _⟩ := I.tuple hH
  obtain ⟨⟨cls, dd, data, sl⟩, ho, hc, n, hd⟩ := id tp
  simp only at hc hd
  subst hc hd
  have hl := r.length
  have hie : ¬ its = [] := fun z => hne (r.nil_iff.mp z)
  by_cases hk : k = 1
  · subst hk
    refine wpAny_binaryOp_repeat_ref (T := "tuple") (U := "int") (by decide) ⟨_, ho, rfl⟩ (fun s' => typeIs_int s' 1 t) noFill_tuple_mul F.fills_int_mul F.slot_int_rmul repeat_tuple F.slot_int_index.lookup
      (call_meets F.slot_int_rmul (typeIs_int s 1 t) F.entry_int_rmul (F.args_int_rmul_2 _ _) (int_rmul_tuple 1 t l its.toArray n dd sl)
        ⟨ho, rfl, ⟨_, ho, rfl⟩, call_meets F.slot_tuple_mul ⟨_, ho, rfl⟩ F.entry_tuple_mul (F.args_tuple_mul_2 _ _) (tuple_mul1 l its.toArray n dd sl t (by simp) (by decide)) ⟨ho, ?_⟩⟩)
    exact ⟨.ref l, H, I, rfl, q1 rfl⟩
  · have hnew : List.foldl (fun x1 x2 => x1 ++ x2) #[] (List.replicate k.toNat its.toArray) = (List.replicate k.toNat its).flatten.toArray := by
      have := foldl_rep its k.toNat []
      rw [List.nil_append] at this
      exact this
    have hsm : (its.length : Int) * k <= 1000 * 1000 := by
      have a1 : (its.length : Int) <= 1000 := by omega
      have a2 : (0 : Int) <= its.length := by omega
      exact Int.le_trans (Int.mul_le_mul_of_nonneg_right a1 (by omega)) (Int.mul_le_mul_of_nonneg_left h2 (by decide))
    have hsn : k.toNat * its.length <= 1000 * 1000 := Nat.mul_le_mul (by omega) (by omega)
    have hsl : (sizeLine : Nat) = 2 ^ 24 := sizeLine_eq
    refine wpAny_binaryOp_repeat_ref (T := "tuple") (U := "int") (by decide) ⟨_, ho, rfl⟩ (fun s' => typeIs_int s' k t) noFill_tuple_mul F.fills_int_mul F.slot_int_rmul repeat_tuple F.slot_int_index.lookup
      (call_meets F.slot_int_rmul (typeIs_int s k t) F.entry_int_rmul (F.args_int_rmul_2 _ _) (int_rmul_tuple k t l its.toArray n dd sl)
        ⟨ho, rfl, ⟨_, ho, rfl⟩, call_meets F.slot_tuple_mul ⟨_, ho, rfl⟩ F.entry_tuple_mul (F.args_tuple_mul_2 _ _) (tuple_mul2 l its.toArray n dd sl k t ?_ ?_ ?_ ?_ ?_ ?_) ⟨ho, ?_⟩⟩)
    · simp [hie, hk]
    · simp; omega
    · simp [hie]; omega
    · simp only [List.size_toArray]; omega
    · unfold Builtin.Tuple.tupleTooMany; simp only [List.size_toArray]; simp; omega
    · rw [hnew, List.size_toArray, len_rep]; omega
    rw [hnew]
    refine ⟨.ref s.heap.objs.size, _, I.laid (t' := s.toks) (o := .tup (List.replicate k.toNat xs).flatten) (fun b ob q => Heap.get?_push_of_some _ q) (Nat.le_refl _) ?_, rfl, q2 hk _ (I.hok.fresh (Nat.le_refl _))⟩
    exact ⟨by rw [len_rep, hl]; omega, _, r.rep k.toNat, IsTup.new _ _⟩
theorem op_repTK {X : Cx} {K : PySem.W.Frag} (hK : X.K = K) : OpR X (binaryOp .Mult) (rRepT K) := by subst hK; exact op_repT
end L2
namespace Mw
def mv (c : Int) (ws xs : List Int) : List Int := List.zipWith (fun w x => w + c * x) ws xs
theorem mv_cons (c w x : Int) (ws xs : List Int) : mv c (w :: ws) (x :: xs) = (w + c * x) :: mv c ws xs := by unfold mv; rw [List.zipWith_cons_cons]
end Mw
namespace Mw
open PySem L2
variable [LamPos]
def topI : List Int -> Int
  | [] => 0
  | [x] => x
  | x :: y :: r => if topI (y :: r) <= x then x else topI (y :: r)
theorem topI_mem : ∀ {ps : List Int}, ps ≠ [] -> topI ps ∈ ps
  | [], h => absurd rfl h
  | [x], _ => by simp [topI]
  | x :: y :: r, _ => by
    have ih := topI_mem (ps := y :: r) (by simp)
    unfold topI
    split
    · simp
    · exact List.mem_cons_of_mem _ ih
theorem topI_le : ∀ {ps : List Int} {b : Int}, b ∈ ps -> b <= topI ps
  | [], _, h => by simp at h
  | [x], b, h => by simp [topI] at *; omega
  | x :: y :: r, b, h => by
    unfold topI
    rcases List.mem_cons.mp h with e | e
    · subst e; split <;> omega
    · have ih := topI_le e
      split <;> omega
theorem topI_eq {ps : List Int} {m : Int} (h : m ∈ ps) (h2 : ∀ b ∈ ps, b <= m) : m = topI ps := by
  have a := topI_le h
  have b := h2 _ (topI_mem (fun z => by rw [z] at h; simp at h))
  omega
def bestS (ps : List Int) : List Nat := (List.range ps.length).filter fun j => decide (ps.getD j 0 = topI ps)
def guessS (ps : List Int) : V := if 1 < (bestS ps).length then .non else .int (((bestS ps).headD 0 : Nat) : Int)
def othersS (n : Nat) (s : Int) : List Nat := (List.range n).filter fun j => decide ((j : Int) ≠ s)
def rivalS (ps : List Int) (s : Int) : Nat := ((othersS ps.length s).filter fun j => decide (ps.getD j 0 = topI ((othersS ps.length s).map fun j => ps.getD j 0))).headD 0
theorem others_lt {n : Nat} {s : Int} {j : Nat} (h : j ∈ othersS n s) : j < n := List.mem_range.mp (List.mem_filter.mp h).1
def TsAt (H : Hp) (as : List Addr) (wss : List (List Int)) : Prop := Paired (fun a ws => H a = some (.tup (ws.map V.int))) as wss
theorem TsAt.same {H H' : Hp} {as : List Addr} {wss : List (List Int)} (e : Same H H') (h : TsAt H as wss) : TsAt H' as wss := Paired.mapP h fun _ _ q => e _ _ q
structure Snd where
  many : Nat
  sides : Nat
  ws : List (List Int)
  err : Nat
namespace Snd
def prods (h : Snd) (p : List Int) : List Int := h.ws.map fun w => dot w (p ++ [1])
def wrong (h : Snd) (p : List Int) (s : Nat) : Bool := decide (guessS (h.prods p) ≠ V.int s)
def mend (wss : List (List Int)) (ps : List Int) (p : List Int) (s : Nat) : List (List Int) :=
  let a := wss.set s (mv 1 (wss.getD s []) (p ++ [1]))
  a.set (rivalS ps s) (mv (-1) (a.getD (rivalS ps s) []) (p ++ [1]))
def step (h : Snd) (p : List Int) (s : Nat) : Snd := if h.wrong p s = true then { h with ws := mend h.ws (h.prods p) p s, err := h.err + 1 } else h
def new (many sides : Nat) : Snd := ⟨many, sides, List.replicate sides (List.replicate (many + 1) 0), 0⟩
structure Ok (h : Snd) : Prop where
  pos : 0 < h.many
  few : h.many <= 4
  two : 2 <= h.sides
  five : h.sides <= 5
  len : h.ws.length = h.sides
  lens : ∀ w ∈ h.ws, w.length = h.many + 1
  low : ∀ w ∈ h.ws, ∀ x ∈ w, x.natAbs <= 2000 * h.err
structure PtOk (h : Snd) (p : List Int) : Prop where
  len : p.length = h.many
  low : ∀ x ∈ p, -1000 <= x /\ x <= 1000
end Snd
section
variable (K : PySem.W.Frag) (I : HandG Snd) (np ns : Addr)
def spNewS : Sp := fun vs H Q _ => ∃ m n : Nat, vs = [V.int m, .int n] /\ 0 < m /\ m <= 4 /\ 2 <= n /\ n <= 5 /\ I.Ts H /\ ∀ r H', Same H H' -> H r = none -> I.At H' r (Snd.new m n) -> Q (.ref r) H'
end
theorem rivalS_lt {ps : List Int} {s : Int} (h : othersS ps.length s ≠ []) : rivalS ps s < ps.length /\ (rivalS ps s : Int) ≠ s := by
  have hfn : ((othersS ps.length s).filter fun j => decide (ps.getD j 0 = topI ((othersS ps.length s).map fun j => ps.getD j 0))) ≠ [] := fun z => by
    obtain ⟨j, hj1, hj2⟩ := List.mem_map.mp (topI_mem (ps := (othersS ps.length s).map fun j => ps.getD j 0) (by simpa using h))
    have : j ∈ ((othersS ps.length s).filter fun j => decide (ps.getD j 0 = topI ((othersS ps.length s).map fun j => ps.getD j 0))) := List.mem_filter.mpr ⟨hj1, by simpa using hj2⟩
    rw [z] at this
    simp at this
  have hm : rivalS ps s ∈ othersS ps.length s := by
    unfold rivalS
    cases e : ((othersS ps.length s).filter fun j => decide (ps.getD j 0 = topI ((othersS ps.length s).map fun j => ps.getD j 0))) with
    | nil => exact absurd e hfn
    | cons j r =>
      have : j ∈ ((othersS ps.length s).filter fun j => decide (ps.getD j 0 = topI ((othersS ps.length s).map fun j => ps.getD j 0))) := by rw [e]; simp
      exact (List.mem_filter.mp this).1
  exact ⟨others_lt hm, by have := (List.mem_filter.mp hm).2; simpa using this⟩
theorem others_ne {n : Nat} {s : Nat} (h : 2 <= n) : othersS n s ≠ [] := fun z => by
  by_cases h0 : s = 0
  · have : 1 ∈ othersS n s := List.mem_filter.mpr ⟨List.mem_range.mpr (by omega), by simp; omega⟩
    rw [z] at this; simp at this
  · have : 0 ∈ othersS n s := List.mem_filter.mpr ⟨List.mem_range.mpr (by omega), by simp; omega⟩
    rw [z] at this; simp at this
theorem refs_of {P : Nat -> Addr -> Prop} : ∀ {ys : List V}, (∀ (j : Nat) y, ys[j]? = some y -> ∃ b, y = .ref b /\ P j b) -> ∃ bs : List Addr, ys = bs.map V.ref /\ ∀ (j : Nat) b, bs[j]? = some b -> P j b := by
  intro ys
  induction ys generalizing P with
  | nil => intro _; exact ⟨[], rfl, fun j b e => by simp at e⟩
  | cons y ys ih =>
    intro h
    obtain ⟨b, e, hb⟩ := h 0 y rfl
    obtain ⟨bs, e2, h2⟩ := ih (P := fun j b => P (j + 1) b) fun j y hy => h (j + 1) y (by simpa using hy)
    refine ⟨b :: bs, by rw [e, e2]; rfl, fun j c hc => ?_⟩
    cases j with
    | zero => have : b = c := by simpa using hc
              rw [<- this]; exact hb
    | succ j => exact h2 j c (by simpa using hc)
theorem guessS_scal (ps : List Int) (n : Int) : scal (guessS ps) (.int n) = true := by unfold guessS; split <;> rfl
theorem mv_len {c : Int} {ws xs : List Int} (h : ws.length = xs.length) : (mv c ws xs).length = ws.length := by
  unfold mv; rw [List.length_zipWith, h]; exact Nat.min_self _
theorem mv_mem {c : Int} (hc : c = 1 \/ c = -1) {n : Nat} : ∀ {ws xs : List Int}, (∀ w ∈ ws, w.natAbs <= n) -> (∀ x ∈ xs, -1000 <= x /\ x <= 1000) -> ∀ z ∈ mv c ws xs, z.natAbs <= n + 1000
  | [], _, _, _, z, hz => by simp [mv] at hz
  | _ :: _, [], _, _, z, hz => by simp [mv] at hz
  | w :: ws, x :: xs, h1, h2, z, hz => by
    rw [mv_cons] at hz
    rcases List.mem_cons.mp hz with e | e
    · have a1 := h1 w (List.mem_cons_self ..)
      have a2 := h2 x (List.mem_cons_self ..)
      rcases hc with rfl | rfl <;> rw [e] <;> omega
    · exact mv_mem hc (fun w hw => h1 w (List.mem_cons_of_mem _ hw)) (fun x hx => h2 x (List.mem_cons_of_mem _ hx)) z e
theorem Snd.new_ok {m n : Nat} (h0 : 0 < m) (h4 : m <= 4) (h2 : 2 <= n) (h5 : n <= 5) : (Snd.new m n).Ok :=
  ⟨h0, h4, h2, h5, by simp [Snd.new], fun w hw => by rw [(List.mem_replicate.mp hw).2]; simp [Snd.new], fun w hw x hx => by
    rw [(List.mem_replicate.mp hw).2] at hx
    rw [(List.mem_replicate.mp hx).2]; simp⟩
theorem Snd.step_many (h : Snd) (p : List Int) (s : Nat) : (h.step p s).many = h.many := by unfold Snd.step; split <;> rfl
theorem Snd.prods_len (h : Snd) (p : List Int) : (h.prods p).length = h.ws.length := by unfold Snd.prods; rw [List.length_map]
theorem Snd.Ok.step {h : Snd} {p : List Int} {s : Nat} (o : h.Ok) (q : h.PtOk p) (hs : s < h.sides) : (h.step p s).Ok := by
  unfold Snd.step
  split
  · have hl := o.len
    have hlow := Hnd.low_snoc q.low
    have hpl : (p ++ [1]).length = h.many + 1 := by rw [List.length_append, q.len]; rfl
    have hset : ∀ (wss : List (List Int)) (i : Nat) (c : Int) (e : Nat), (c = 1 \/ c = -1) -> i < wss.length -> (∀ w ∈ wss, w.length = h.many + 1) -> (∀ w ∈ wss, ∀ x ∈ w, x.natAbs <= e) -> (∀ w ∈ wss.set i (mv c (wss.getD i []) (p ++ [1])), w.length = h.many + 1) /\ (∀ w ∈ wss.set i (mv c (wss.getD i []) (p ++ [1])), ∀ x ∈ w, x.natAbs <= e + 1000) := by
      intro wss i c e hc hi h1 h2
      have hg : wss.getD i [] = wss[i] := by rw [List.getD_eq_getElem?_getD, List.getElem?_eq_getElem hi]; rfl
      have hm : wss[i] ∈ wss := List.getElem_mem hi
      rw [hg]
      refine ⟨fun w hw => ?_, fun w hw x hx => ?_⟩
      · rcases List.mem_or_eq_of_mem_set hw with z | z
        · exact h1 w z
        · rw [z, mv_len (by rw [h1 _ hm, hpl]), h1 _ hm]
      · rcases List.mem_or_eq_of_mem_set hw with z | z
        · have := h2 w z x hx; omega
        · rw [z] at hx; exact mv_mem hc (h2 _ hm) hlow x hx
    have hsl : s < h.ws.length := by omega
    have hrv := rivalS_lt (ps := h.prods p) (s := (s : Int)) (by rw [Snd.prods_len, hl]; exact others_ne o.two)
    rw [Snd.prods_len] at hrv
    obtain ⟨a1, a2⟩ := hset h.ws s 1 (2000 * h.err) (.inl rfl) hsl o.lens o.low
    obtain ⟨b1, b2⟩ := hset (h.ws.set s (mv 1 (h.ws.getD s []) (p ++ [1]))) (rivalS (h.prods p) s) (-1) (2000 * h.err + 1000) (.inr rfl) (by rw [List.length_set]; exact hrv.1) a1 a2
    refine ⟨o.pos, o.few, o.two, o.five, ?_, b1, fun w hw x hx => ?_⟩
    · show (Snd.mend h.ws (h.prods p) p s).length = h.sides
      unfold Snd.mend
      rw [List.length_set, List.length_set, hl]
    · have := b2 w hw x hx
      show x.natAbs <= 2000 * (h.err + 1)
      omega
  · exact o
end Mw
namespace Mw
theorem frac_uniq {x y u v : Int} (hy : 0 < y) (hv : 0 < v) (g1 : Int.gcd x y = 1) (g2 : Int.gcd u v = 1) (h : x * v = u * y) : x = u /\ y = v := by
  have d1 : y.natAbs ∣ v.natAbs := by
    have : y.natAbs ∣ x.natAbs * v.natAbs := by rw [<- Int.natAbs_mul, h, Int.natAbs_mul]; exact Nat.dvd_mul_left _ _
    exact Nat.Coprime.dvd_of_dvd_mul_left (show Nat.Coprime y.natAbs x.natAbs by rw [Nat.coprime_comm]; exact g1) this
  have d2 : v.natAbs ∣ y.natAbs := by
    have : v.natAbs ∣ u.natAbs * y.natAbs := by rw [<- Int.natAbs_mul, <- h, Int.natAbs_mul]; exact Nat.dvd_mul_left _ _
    exact Nat.Coprime.dvd_of_dvd_mul_left (show Nat.Coprime v.natAbs u.natAbs by rw [Nat.coprime_comm]; exact g2) this
  have e : y.natAbs = v.natAbs := Nat.dvd_antisymm d1 d2
  have e2 : y = v := by omega
  subst e2
  exact ⟨Int.eq_of_mul_eq_mul_right (by omega) h, rfl⟩
def top2 (w : Int) : Int := 2 ^ w.toNat
def bot2 (w : Int) : Int := 2 ^ (-w).toNat
theorem pow2_pos (n : Nat) : (0 : Int) < 2 ^ n := Int.pow_pos (by decide)
theorem pow2_cast (k : Nat) : (2 : Int) ^ k = ((2 ^ k : Nat) : Int) := by rw [Int.natCast_pow]; rfl
theorem pow2_lt {k l : Nat} (h : k < l) : (2 : Int) ^ k < 2 ^ l := by
  rw [pow2_cast, pow2_cast]; exact Int.ofNat_lt.mpr (Nat.pow_lt_pow_right (by decide) h)
theorem bot2_pos (w : Int) : 0 < bot2 w := pow2_pos _
theorem tb_one (w : Int) : top2 w = 1 \/ bot2 w = 1 := by
  unfold top2 bot2
  by_cases h : 0 <= w
  · right
    have : (-w).toNat = 0 := by omega
    rw [this]; rfl
  · left
    have : w.toNat = 0 := by omega
    rw [this]; rfl
theorem tb_gcd (w : Int) : Int.gcd (top2 w) (bot2 w) = 1 := by
  rcases tb_one w with h | h <;> rw [h] <;> simp
theorem tb_scale {w : Int} {e : Nat} (h : -(e : Int) <= w) : top2 w * 2 ^ e = 2 ^ (w + e).toNat * bot2 w := by
  unfold top2 bot2
  rw [<- Int.pow_add, <- Int.pow_add]
  congr 1
  omega
theorem tb_cross (w v : Int) (e : Nat) (h1 : -(e : Int) <= w) (h2 : -(e : Int) <= v) : top2 w * bot2 v * 2 ^ (v + e).toNat = top2 v * bot2 w * 2 ^ (w + e).toNat := by
  have a := tb_scale h1
  have b := tb_scale h2
  have p := pow2_pos e
  refine Int.eq_of_mul_eq_mul_right (Int.ne_of_gt p) ?_
  calc top2 w * bot2 v * 2 ^ (v + e).toNat * 2 ^ e = (top2 w * 2 ^ e) * (2 ^ (v + e).toNat * bot2 v) := by ac_rfl
    _ = (2 ^ (w + e).toNat * bot2 w) * (top2 v * 2 ^ e) := by rw [a, b]
    _ = top2 v * bot2 w * 2 ^ (w + e).toNat * 2 ^ e := by ac_rfl
theorem tb_dbl (w : Int) : ptop (top2 w * 2) (bot2 w * 1) = top2 (w + 1) /\ pbot (top2 w * 2) (bot2 w * 1) = bot2 (w + 1) := by
  have hb : bot2 w * 1 ≠ 0 := by have := bot2_pos w; omega
  refine frac_uniq (pbot_pos hb) (bot2_pos _) (part_gcd hb) (tb_gcd _) ?_
  have c := part_cross (t := top2 w * 2) (b := bot2 w * 1)
  have x : top2 w * 2 * bot2 (w + 1) = top2 (w + 1) * (bot2 w * 1) := by
    have y := tb_cross w (w + 1) (w.natAbs + 1) (by omega) (by omega)
    have e : (w + 1 + ((w.natAbs + 1 : Nat) : Int)).toNat = (w + ((w.natAbs + 1 : Nat) : Int)).toNat + 1 := by omega
    rw [e, Int.pow_succ] at y
    refine Int.eq_of_mul_eq_mul_right (Int.ne_of_gt (pow2_pos (w + ((w.natAbs + 1 : Nat) : Int)).toNat)) ?_
    rw [Int.mul_one]
    calc top2 w * 2 * bot2 (w + 1) * 2 ^ (w + ((w.natAbs + 1 : Nat) : Int)).toNat = top2 w * bot2 (w + 1) * (2 ^ (w + ((w.natAbs + 1 : Nat) : Int)).toNat * 2) := by ac_rfl
      _ = _ := y
  have p := bot2_pos w
  refine Int.eq_of_mul_eq_mul_right (show (bot2 w * 1 : Int) ≠ 0 by omega) ?_
  calc ptop (top2 w * 2) (bot2 w * 1) * bot2 (w + 1) * (bot2 w * 1) = (ptop (top2 w * 2) (bot2 w * 1) * (bot2 w * 1)) * bot2 (w + 1) := by ac_rfl
    _ = (top2 w * 2 * pbot (top2 w * 2) (bot2 w * 1)) * bot2 (w + 1) := by rw [c]
    _ = (top2 w * 2 * bot2 (w + 1)) * pbot (top2 w * 2) (bot2 w * 1) := by ac_rfl
    _ = (top2 (w + 1) * (bot2 w * 1)) * pbot (top2 w * 2) (bot2 w * 1) := by rw [x]
    _ = top2 (w + 1) * pbot (top2 w * 2) (bot2 w * 1) * (bot2 w * 1) := by ac_rfl
theorem tb_hlf (w : Int) : ptop (top2 w * 1) (bot2 w * 2) = top2 (w - 1) /\ pbot (top2 w * 1) (bot2 w * 2) = bot2 (w - 1) := by
  have hb : bot2 w * 2 ≠ 0 := by have := bot2_pos w; omega
  refine frac_uniq (pbot_pos hb) (bot2_pos _) (part_gcd hb) (tb_gcd _) ?_
  have c := part_cross (t := top2 w * 1) (b := bot2 w * 2)
  have x : top2 w * 1 * bot2 (w - 1) = top2 (w - 1) * (bot2 w * 2) := by
    have y := tb_cross w (w - 1) (w.natAbs + 1) (by omega) (by omega)
    have e : (w + ((w.natAbs + 1 : Nat) : Int)).toNat = (w - 1 + ((w.natAbs + 1 : Nat) : Int)).toNat + 1 := by omega
    rw [e, Int.pow_succ] at y
    refine Int.eq_of_mul_eq_mul_right (Int.ne_of_gt (pow2_pos (w - 1 + ((w.natAbs + 1 : Nat) : Int)).toNat)) ?_
    rw [Int.mul_one]
    rw [y]; ac_rfl
  have p := bot2_pos w
  refine Int.eq_of_mul_eq_mul_right (show (bot2 w * 2 : Int) ≠ 0 by omega) ?_
  calc ptop (top2 w * 1) (bot2 w * 2) * bot2 (w - 1) * (bot2 w * 2) = (ptop (top2 w * 1) (bot2 w * 2) * (bot2 w * 2)) * bot2 (w - 1) := by ac_rfl
    _ = (top2 w * 1 * pbot (top2 w * 1) (bot2 w * 2)) * bot2 (w - 1) := by rw [c]
    _ = (top2 w * 1 * bot2 (w - 1)) * pbot (top2 w * 1) (bot2 w * 2) := by ac_rfl
    _ = (top2 (w - 1) * (bot2 w * 2)) * pbot (top2 w * 1) (bot2 w * 2) := by rw [x]
    _ = top2 (w - 1) * pbot (top2 w * 1) (bot2 w * 2) * (bot2 w * 2) := by ac_rfl
def much (pw p : List Int) (e : Nat) : Int := (((pw.zip p).filter fun z : Int × Int => decide (z.2 = 1)).map fun z : Int × Int => (2 : Int) ^ (z.1 + (e : Int)).toNat).sum
theorem much_cons1 (w x : Int) (pw p : List Int) (e : Nat) (h : x = 1) : much (w :: pw) (x :: p) e = 2 ^ (w + e).toNat + much pw p e := by
  unfold much
  simp [h]
theorem much_cons0 (w x : Int) (pw p : List Int) (e : Nat) (h : x ≠ 1) : much (w :: pw) (x :: p) e = much pw p e := by
  unfold much
  simp [h]
theorem much_nil (p : List Int) (e : Nat) : much [] p e = 0 := by unfold much; simp
theorem much_nil2 (w : List Int) (e : Nat) : much w [] e = 0 := by unfold much; simp
theorem much_scale : ∀ (pw p : List Int) (e d : Nat), (∀ w ∈ pw, -(e : Int) <= w) -> much pw p (e + d) = much pw p e * 2 ^ d
  | [], p, e, d, _ => by rw [much_nil, much_nil, Int.zero_mul]
  | w :: pw, [], e, d, _ => by rw [much_nil2, much_nil2, Int.zero_mul]
  | w :: pw, x :: p, e, d, h => by
    have ih := much_scale pw p e d fun w hw => h w (List.mem_cons_of_mem _ hw)
    by_cases hx : x = 1
    · rw [much_cons1 _ _ _ _ _ hx, much_cons1 _ _ _ _ _ hx, ih, Int.add_mul, <- Int.pow_add]
      have := h w (List.mem_cons_self ..)
      have e1 : (w + ((e + d : Nat) : Int)).toNat = (w + (e : Int)).toNat + d := by omega
      rw [e1]
    · rw [much_cons0 _ _ _ _ _ hx, much_cons0 _ _ _ _ _ hx, ih]
theorem much_le {pw p : List Int} {m : Int} {e f : Nat} (he : ∀ w ∈ pw, -(e : Int) <= w) (hef : e <= f) : (m * 2 ^ f <= much pw p f) ↔ (m * 2 ^ e <= much pw p e) := by
  obtain ⟨d, rfl⟩ : ∃ d, f = e + d := ⟨f - e, by omega⟩
  rw [much_scale pw p e d he, Int.pow_add, <- Int.mul_assoc]
  exact ⟨fun h => Int.le_of_mul_le_mul_right h (pow2_pos d), fun h => Int.mul_le_mul_of_nonneg_right h (Int.le_of_lt (pow2_pos d))⟩
end Mw
namespace Mw
open PySem L2
variable [LamPos]
structure Vnd where
  many : Nat
  pw : List Int
  err : Nat
namespace Vnd
def tell (h : Vnd) (p : List Int) : Int := if (h.many : Int) * 2 ^ h.err <= much h.pw p h.err then 1 else 0
def wrong (h : Vnd) (p : List Int) (s : Int) : Bool := decide (h.tell p ≠ s)
def mend (pw p : List Int) (s : Int) : List Int := List.zipWith (fun w x => if x = 1 then w + (2 * s - 1) else w) pw p
def step (h : Vnd) (p : List Int) (s : Int) : Vnd := if h.wrong p s = true then { h with pw := mend h.pw p s, err := h.err + 1 } else h
def new (many : Nat) : Vnd := ⟨many, List.replicate many 0, 0⟩
structure Ok (h : Vnd) : Prop where
  pos : 0 < h.many
  few : h.many <= 12
  len : h.pw.length = h.many
  low : ∀ w ∈ h.pw, w.natAbs <= h.err
structure PtOk (h : Vnd) (p : List Int) : Prop where
  len : p.length = h.many
  low : ∀ x ∈ p, x = 0 \/ x = 1
theorem new_ok {m : Nat} (h0 : 0 < m) (h1 : m <= 12) : (new m).Ok := ⟨h0, h1, by unfold new; simp, fun w hw => by unfold new at hw; rw [(List.mem_replicate.mp hw).2]; simp⟩
theorem step_many (h : Vnd) (p : List Int) (s : Int) : (h.step p s).many = h.many := by unfold step; split <;> rfl
theorem mend_mem {s : Int} (hs : s = 0 \/ s = 1) {n : Nat} : ∀ {ws xs : List Int}, (∀ w ∈ ws, w.natAbs <= n) -> ∀ z ∈ mend ws xs s, z.natAbs <= n + 1
  | [], _, _, z, hz => by simp [mend] at hz
  | _ :: _, [], _, z, hz => by simp [mend] at hz
  | w :: ws, x :: xs, h1, z, hz => by
    unfold mend at hz
    rw [List.zipWith_cons_cons] at hz
    rcases List.mem_cons.mp hz with e | e
    · have a1 := h1 w (List.mem_cons_self ..)
      rw [e]
      split
      · rcases hs with rfl | rfl <;> omega
      · omega
    · exact mend_mem hs (fun w hw => h1 w (List.mem_cons_of_mem _ hw)) z e
theorem Ok.step {h : Vnd} {p : List Int} {s : Int} (o : h.Ok) (q : h.PtOk p) (hs : s = 0 \/ s = 1) : (h.step p s).Ok := by
  unfold Vnd.step
  split
  · refine ⟨o.pos, o.few, ?_, fun w hw => mend_mem hs o.low w hw⟩
    show (mend h.pw p s).length = h.many
    unfold mend
    rw [List.length_zipWith, o.len, q.len]; exact Nat.min_self _
  · exact o
end Vnd
inductive Gnd where
  | p (h : Hnd)
  | v (h : Vnd)
  | s (h : Snd)
namespace Gnd
def kd : Gnd -> Nat
  | .p h => h.kd
  | .v _ => 3
  | .s _ => 4
def many : Gnd -> Nat
  | .p h => h.many
  | .v h => h.many
  | .s h => h.many
def err : Gnd -> Nat
  | .p h => h.err
  | .v h => h.err
  | .s h => h.err
def has : Gnd -> Int -> Bool
  | .p _, z => decide (z = 0 \/ z = 1)
  | .v _, z => decide (z = 0 \/ z = 1)
  | .s h, z => decide (0 <= z /\ z < h.sides)
def guess : Gnd -> List Int -> V
  | .p h, x => guessV (h.prod x)
  | .v h, x => .int (h.tell x)
  | .s h, x => guessS (h.prods x)
def wrong : Gnd -> List Int -> Int -> Bool
  | .p h, x, z => h.wrong x z
  | .v h, x, z => h.wrong x z
  | .s h, x, z => h.wrong x z.toNat
def mended : Gnd -> List Int -> Int -> Gnd
  | .p h, x, z => .p { h with ws := if h.kd = 0 then h.ws else Hnd.mend h.ws x z }
  | .v h, x, z => .v { h with pw := Vnd.mend h.pw x z }
  | .s h, x, z => .s { h with ws := Snd.mend h.ws (h.prods x) x z.toNat }
def tick : Gnd -> Gnd
  | .p h => .p { h with err := h.err + 1 }
  | .v h => .v { h with err := h.err + 1 }
  | .s h => .s { h with err := h.err + 1 }
def step : Gnd -> List Int -> Int -> Gnd
  | .p h, x, z => .p (h.step x z)
  | .v h, x, z => .v (h.step x z)
  | .s h, x, z => .s (h.step x z.toNat)
def Ok : Gnd -> Prop
  | .p h => h.Ok
  | .v h => h.Ok
  | .s h => h.Ok
def PtOk : Gnd -> List Int -> Prop
  | .p h => h.PtOk
  | .v h => h.PtOk
  | .s h => h.PtOk
def Small (e : Nat) : Gnd -> Prop
  | .p h => h.err <= errTop + e
  | .v h => h.err <= 300 + e
  | .s h => h.err <= errTop + e
theorem step_eq (g : Gnd) (x : List Int) (z : Int) : g.step x z = if g.wrong x z = true then g.tick.mended x z else g := by
  cases g with
  | p h =>
    show Gnd.p (h.step x z) = if h.wrong x z = true then _ else _
    unfold Hnd.step
    split <;> rfl
  | v h =>
    show Gnd.v (h.step x z) = if h.wrong x z = true then _ else _
    unfold Vnd.step
    split <;> rfl
  | s h =>
    show Gnd.s (h.step x z.toNat) = if h.wrong x z.toNat = true then _ else _
    unfold Snd.step
    split <;> rfl
theorem tick_many (g : Gnd) : g.tick.many = g.many := by cases g <;> rfl
theorem tick_kd (g : Gnd) : g.tick.kd = g.kd := by cases g <;> rfl
theorem tick_has (g : Gnd) (z : Int) : g.tick.has z = g.has z := by cases g <;> rfl
theorem tick_err (g : Gnd) : g.tick.err = g.err + 1 := by cases g <;> rfl
theorem tick_pt {g : Gnd} {x : List Int} (h : g.PtOk x) : g.tick.PtOk x := by
  cases g with
  | p h' => exact ⟨h.1, h.2⟩
  | v h' => exact ⟨h.1, h.2⟩
  | s h' => exact ⟨h.1, h.2⟩
theorem Ok.tick {g : Gnd} (o : g.Ok) : g.tick.Ok := by
  cases g with
  | p h => exact ⟨o.k3, o.pos, o.few, o.len, fun w hw => by have := o.low w hw; show w.natAbs <= 1000 * (h.err + 1); omega⟩
  | v h => exact ⟨o.pos, o.few, o.len, fun w hw => by have := o.low w hw; show w.natAbs <= h.err + 1; omega⟩
  | s h => exact ⟨o.pos, o.few, o.two, o.five, o.len, o.lens, fun w hw x hx => by have := o.low w hw x hx; show x.natAbs <= 2000 * (h.err + 1); omega⟩
theorem Small.tick {g : Gnd} {e : Nat} (o : g.Small e) : g.tick.Small (e + 1) := by
  cases g with
  | p h => have : h.err <= errTop + e := o
           show h.err + 1 <= errTop + (e + 1); omega
  | v h => have : h.err <= 300 + e := o
           show h.err + 1 <= 300 + (e + 1); omega
  | s h => have : h.err <= errTop + e := o
           show h.err + 1 <= errTop + (e + 1); omega
theorem mended_kd (g : Gnd) (x : List Int) (z : Int) : (g.mended x z).kd = g.kd := by cases g <;> rfl
theorem mended_many (g : Gnd) (x : List Int) (z : Int) : (g.mended x z).many = g.many := by cases g <;> rfl
theorem mended_err (g : Gnd) (x : List Int) (z : Int) : (g.mended x z).err = g.err := by cases g <;> rfl
theorem pt_len {g : Gnd} {x : List Int} (h : g.PtOk x) : x.length = g.many := by
  cases g with
  | p h' => exact h.1
  | v h' => exact h.1
  | s h' => exact h.1
theorem guess_scal (g : Gnd) (x : List Int) (n : Int) : scal (g.guess x) (.int n) = true := by
  cases g with
  | p h => show scal (guessV _) _ = true; unfold guessV; split <;> rfl
  | v h => rfl
  | s h => exact guessS_scal _ _
theorem wrong_eq {g : Gnd} {x : List Int} {z : Int} (h : g.kd ≠ 2) (hz : g.has z = true) : g.wrong x z = decide (g.guess x ≠ V.int z) := by
  cases g with
  | p h' => show h'.wrong x z = _; unfold Hnd.wrong; rw [if_neg (show ¬ h'.kd = 2 from h)]; rfl
  | v h' =>
    show decide (h'.tell x ≠ z) = decide (V.int (h'.tell x) ≠ V.int z)
    exact decide_eq_decide.mpr ⟨fun n e => n (by injection e), fun n e => n (by rw [e])⟩
  | s h' =>
    have hz' : 0 <= z /\ z < h'.sides := of_decide_eq_true hz
    show decide (guessS (h'.prods x) ≠ V.int (z.toNat : Nat)) = decide (guessS (h'.prods x) ≠ V.int z)
    have e : ((z.toNat : Nat) : Int) = z := by omega
    rw [e]
theorem Ok.step {g : Gnd} {x : List Int} {z : Int} (o : g.Ok) (q : g.PtOk x) (hz : g.has z = true) : (g.step x z).Ok := by
  cases g with
  | p h => exact Hnd.Ok.step o q (of_decide_eq_true hz)
  | v h => exact Vnd.Ok.step o q (of_decide_eq_true hz)
  | s h =>
    have hz' : 0 <= z /\ z < h.sides := of_decide_eq_true hz
    exact Snd.Ok.step o q (by omega)
theorem step_many (g : Gnd) (x : List Int) (z : Int) : (g.step x z).many = g.many := by
  rw [step_eq]; split
  · rw [mended_many, tick_many]
  · rfl
theorem step_err (g : Gnd) (x : List Int) (z : Int) : (g.step x z).err = g.err + (if g.wrong x z = true then 1 else 0) := by
  rw [step_eq]; split
  · rw [mended_err, tick_err]
  · rfl
theorem mended_has (g : Gnd) (x : List Int) (z y : Int) : (g.mended x z).has y = g.has y := by cases g <;> rfl
theorem step_has (g : Gnd) (x : List Int) (z y : Int) : (g.step x z).has y = g.has y := by
  rw [step_eq]; split
  · rw [mended_has, tick_has]
  · rfl
end Gnd
def HeldAt (H : Hp) (t : Addr) : Gnd -> Prop
  | .p h => H t = some (.tup (h.ws.map V.int))
  | .v h => ∃ ts : List Addr, H t = some (.tup (ts.map V.ref)) /\ Paired (fun a w => H a = some (.tup [.int (top2 w), .int (bot2 w)])) ts h.pw
  | .s h => ∃ ts : List Addr, H t = some (.tup (ts.map V.ref)) /\ TsAt H ts h.ws
theorem HeldAt.map {H H' : Hp} {t : Addr} {g : Gnd} (h : HeldAt H t g) (m : ∀ a xs, H a = some (.tup xs) -> H' a = some (.tup xs)) : HeldAt H' t g := by
  cases g with
  | p h' => exact m _ _ h
  | v h' => obtain ⟨ts, e, q⟩ := h; exact ⟨ts, m _ _ e, Paired.mapP q fun _ _ z => m _ _ z⟩
  | s h' => obtain ⟨ts, e, q⟩ := h; exact ⟨ts, m _ _ e, Paired.mapP q fun _ _ z => m _ _ z⟩
theorem HeldAt.tick {H : Hp} {t : Addr} {g : Gnd} (h : HeldAt H t g) : HeldAt H t g.tick := by cases g <;> exact h
theorem HeldAt.upd_ins {H : Hp} {t a : Addr} {g : Gnd} {C dx C' dx' : Addr} {fs fs' : List (Str × V)} (h : HeldAt H t g) (e : H a = some (.ins C dx fs)) : HeldAt (upd H a (.ins C' dx' fs')) t g :=
  h.map fun b xs hb => by rw [upd_ne (fun z => by rw [z, e] at hb; cases hb)]; exact hb
abbrev fldNames : List Str := ["many", "held", "made", "margin", "sides"]
structure GFs (g : Gnd) (t : Addr) (fs : List (Str × V)) : Prop where
  many : fs.lookup ("many" : Str) = some (.int g.many)
  held : fs.lookup ("held" : Str) = some (.ref t)
  made : fs.lookup ("made" : Str) = some (.int g.err)
  margin : ∀ h, g = .p h -> h.kd = 2 -> fs.lookup ("margin" : Str) = some (.int h.mg)
  sides : ∀ h, g = .s h -> fs.lookup ("sides" : Str) = some (.int h.sides)
  few : fs.length <= 10
  no : ∀ f : Str, f ∉ fldNames -> fs.lookup f = none
structure GAt (cls : Nat -> Addr) (ks : List Nat) (H : Hp) (a : Addr) (g : Gnd) : Prop where
  ex : ∃ dx fs t, H a = some (.ins (cls g.kd) dx fs) /\ GFs g t fs /\ HeldAt H t g
  kin : g.kd ∈ ks
  pk : ∀ h, g = .p h -> h.kd < 3
  ts : ∀ h, g = .s h -> TbL H (cls 5)
abbrev Kds (cls : Nat -> Addr) (ks : List Nat) : Addr -> Prop := fun C => ∃ k ∈ ks, C = cls k
section
variable {cls : Nat -> Addr} {ks : List Nat} {H H' : Hp} {a : Addr} {g : Gnd}
theorem GAt.map (q : GAt cls ks H a g) (i : ∀ C dx fs, H a = some (.ins C dx fs) -> H' a = some (.ins C dx fs)) (m : ∀ b xs, H b = some (.tup xs) -> H' b = some (.tup xs)) (ts : ∀ b, TbL H b -> TbL H' b) : GAt cls ks H' a g := by
  obtain ⟨dx, fs, t, e, F, ht⟩ := q.ex
  exact ⟨⟨dx, fs, t, i _ _ _ e, F, ht.map m⟩, q.kin, q.pk, fun h z => ts _ (q.ts h z)⟩
theorem GAt.same (q : GAt cls ks H a g) (s : Same H H') : GAt cls ks H' a g := q.map (fun _ _ _ h => s _ _ h) (fun _ _ h => s _ _ h) fun _ h => h.map (fun _ _ z => s _ _ z) fun _ _ z => s _ _ z
theorem GAt.keep {L : List Addr} (q : GAt cls ks H a g) (k : Kp L H H') (n : a ∉ L) : GAt cls ks H' a g := q.map (fun _ _ _ h => k.but _ _ n h) (fun _ _ h => k.tup h) k.ts
theorem GAt.keepL {D : Addr} {xs : List V} (q : GAt cls ks H a g) (e : H D = some (.lst xs)) (o : OffD D H H') : GAt cls ks H' a g :=
  q.map (fun _ _ _ h => o _ _ (fun z => by rw [z, e] at h; cases h) h) (fun _ _ h => o _ _ (fun z => by rw [z, e] at h; cases h) h) fun _ h => h.map (fun _ _ h => o _ _ (fun z => by rw [z, e] at h; cases h) h) fun _ _ h => o _ _ (fun z => by rw [z, e] at h; cases h) h
theorem GAt.ins (q : GAt cls ks H a g) : ∃ C dx fs, H a = some (.ins C dx fs) /\ Kds cls ks C /\ ∀ f : Str, f ∉ fldNames -> fs.lookup f = none := by
  obtain ⟨dx, fs, t, e, F, ht⟩ := q.ex
  exact ⟨_, dx, fs, e, ⟨_, q.kin, rfl⟩, F.no⟩
end
theorem GFs.mended {g : Gnd} {t r : Addr} {fs : List (Str × V)} (F : GFs g t fs) (xs : List Int) (s : Int) : GFs (g.mended xs s) r (putF "held" (.ref r) fs) := by
  refine ⟨?_, ?_, ?_, fun h e k => ?_, fun h e => ?_, ?_, fun f hf => ?_⟩
  · rw [lookup_putF, if_neg (by decide +kernel), Gnd.mended_many]; exact F.many
  · rw [lookup_putF, if_pos rfl]
  · rw [lookup_putF, if_neg (by decide +kernel), Gnd.mended_err]; exact F.made
  · rw [lookup_putF, if_neg (by decide +kernel)]
    cases g with
    | p h0 => cases e; exact F.margin h0 rfl k
    | v h0 => cases e
    | s h0 => cases e
  · rw [lookup_putF, if_neg (by decide +kernel)]
    cases g with
    | p h0 => cases e
    | v h0 => cases e
    | s h0 => cases e; exact F.sides h0 rfl
  · rw [putF_len F.held]; exact F.few
  · rw [lookup_putF, if_neg (fun z => hf (by rw [z]; decide +kernel))]; exact F.no f hf
theorem GFs.ticked {g : Gnd} {t : Addr} {fs : List (Str × V)} (F : GFs g t fs) : GFs g.tick t (putF "made" (.int (g.err + 1)) fs) := by
  refine ⟨?_, ?_, ?_, fun h e k => ?_, fun h e => ?_, ?_, fun f hf => ?_⟩
  · rw [lookup_putF, if_neg (by decide +kernel), Gnd.tick_many]; exact F.many
  · rw [lookup_putF, if_neg (by decide +kernel)]; exact F.held
  · rw [lookup_putF, if_pos rfl, Gnd.tick_err]; rfl
  · rw [lookup_putF, if_neg (by decide +kernel)]
    cases g with
    | p h0 => cases e; exact F.margin h0 rfl k
    | v h0 => cases e
    | s h0 => cases e
  · rw [lookup_putF, if_neg (by decide +kernel)]
    cases g with
    | p h0 => cases e
    | v h0 => cases e
    | s h0 => cases e; exact F.sides h0 rfl
  · rw [putF_len F.made]; exact F.few
  · rw [lookup_putF, if_neg (fun z => hf (by rw [z]; decide +kernel))]; exact F.no f hf
section
variable {cls : Nat -> Addr} {ks : List Nat} {H H2 : Hp} {a dx r t : Addr} {fs : List (Str × V)} {g : Gnd}
theorem GAt.held_set (q : GAt cls ks H a g) (e : H2 a = some (.ins (cls g.kd) dx fs)) (F : GFs g t fs) (xs : List Int) (s : Int) (hr : HeldAt H2 r (g.mended xs s)) (hts : ∀ h, g = .s h -> TbL H2 (cls 5)) : GAt cls ks (upd H2 a (.ins (cls g.kd) dx (putF "held" (.ref r) fs))) a (g.mended xs s) :=
  ⟨⟨dx, _, r, by rw [Gnd.mended_kd]; exact upd_same, F.mended xs s, hr.upd_ins e⟩, by rw [Gnd.mended_kd]; exact q.kin, (fun h z => by
    cases g with
    | p h0 => cases z; exact q.pk h0 rfl
    | v h0 => cases z
    | s h0 => cases z), (fun h z => by
    cases g with
    | p h0 => cases z
    | v h0 => cases z
    | s h0 => exact (hts h0 rfl).map (fun d ps y => by rw [upd_ne (fun w => by rw [w, e] at y; cases y)]; exact y) fun d φ y => by rw [upd_ne (fun w => by rw [w, e] at y; cases y)]; exact y)⟩
theorem GAt.made_set (q : GAt cls ks H a g) (e : H2 a = some (.ins (cls g.kd) dx fs)) (F : GFs g t fs) (ht : HeldAt H2 t g) (hts : ∀ h, g = .s h -> TbL H2 (cls 5)) : GAt cls ks (upd H2 a (.ins (cls g.kd) dx (putF "made" (.int (g.err + 1)) fs))) a g.tick :=
  ⟨⟨dx, _, t, by rw [Gnd.tick_kd]; exact upd_same, F.ticked, ht.tick.upd_ins e⟩, by rw [Gnd.tick_kd]; exact q.kin, (fun h z => by
    cases g with
    | p h0 => cases z; exact q.pk h0 rfl
    | v h0 => cases z
    | s h0 => cases z), (fun h z => by
    cases g with
    | p h0 => cases z
    | v h0 => cases z
    | s h0 => exact (hts h0 rfl).map (fun d ps y => by rw [upd_ne (fun w => by rw [w, e] at y; cases y)]; exact y) fun d φ y => by rw [upd_ne (fun w => by rw [w, e] at y; cases y)]; exact y)⟩
end
def hI (cls : Nat -> Addr) (ks : List Nat) : HandI where
  At := fun H a h => GAt cls ks H a (.p h)
  Kd := Kds cls ks
  ins := fun {H a h} q => by
    obtain ⟨C, dx, fs, e, k, n⟩ := q.ins
    exact ⟨C, dx, fs, e, k, n _ (by decide +kernel), n _ (by decide +kernel), n _ (by decide +kernel), n _ (by decide +kernel)⟩
  keep := fun {S H H' a h} q kp n => q.keep kp n
def gI {S : Type} (f : S -> Gnd) (cls : Nat -> Addr) (ks : List Nat) : HandG S where
  At := fun H a h => GAt cls ks H a (f h)
  Kd := Kds cls ks
  ins := fun {H a h} q => by
    obtain ⟨C, dx, fs, e, k, n⟩ := q.ins
    exact ⟨C, dx, fs, e, k, n _ (by decide +kernel), n _ (by decide +kernel), n _ (by decide +kernel), n _ (by decide +kernel)⟩
  keep := fun {L H H' a h} q kp n => q.keep kp n
  keepL := fun {H H' a h D xs} q e o => q.keepL e o
  Ts := fun H => TbL H (cls 5)
  ts := fun {L H H'} h k => k.ts _ h
structure HTx (K : PySem.W.Frag) (cls : Nat -> Addr) (ks : List Nat) : Prop where
  cl : ∀ k ∈ ks, Cls K (cls k)
  many : ∀ k ∈ ks, NoAttr K (cls k) "many"
  held : ∀ k ∈ ks, NoAttr K (cls k) "held"
  made : ∀ k ∈ ks, NoAttr K (cls k) "made"
  margin : 2 ∈ ks -> NoAttr K (cls 2) "margin"
  sides : 4 ∈ ks -> NoAttr K (cls 4) "sides"
  inj : ∀ k ∈ ks, ∀ l ∈ ks, cls k = cls l -> k = l
section
variable (K : PySem.W.Frag) (cls : Nat -> Addr) (ks : List Nat) (np ns : Addr)
def spLook : Sp := fun vs H Q E => ∃ (a p : Addr) (g : Gnd) (xs : List Int), vs = [.ref a, .ref p] /\ GAt cls ks H a g /\ SqT K H p (xs.map V.int) /\ (xs.length ≠ g.many -> E (.ref np) none H) /\ (xs.length = g.many -> Q .non H)
def spHas : Sp := fun vs H Q E => ∃ (a : Addr) (g : Gnd) (s : Int), vs = [.ref a, .int s] /\ GAt cls ks H a g /\ ∀ H', Same H H' -> Q (.bl (g.has s)) H'
def spSide : Sp := fun vs H Q E => ∃ (a p : Addr) (g : Gnd) (xs : List Int), vs = [.ref a, .ref p] /\ GAt cls ks H a g /\ g.Ok /\ g.Small 0 /\ SqT K H p (xs.map V.int) /\ g.PtOk xs /\ ∀ H', Same H H' -> Q (g.guess xs) H'
def spIM : Sp := fun vs H Q E => ∃ (a p : Addr) (g : Gnd) (xs : List Int) (s : Int), vs = [.ref a, .ref p, .int s] /\ GAt cls ks H a g /\ g.Ok /\ g.Small 0 /\ SqT K H p (xs.map V.int) /\ g.PtOk xs /\ g.has s = true /\ ∀ H', Same H H' -> Q (.bl (g.wrong xs s)) H'
def spMd : Sp := fun vs H Q E => ∃ (a p : Addr) (g : Gnd) (xs : List Int) (s : Int), vs = [.ref a, .ref p, .int s] /\ GAt cls ks H a g /\ g.Ok /\ g.Small 1 /\ SqT K H p (xs.map V.int) /\ g.PtOk xs /\ g.has s = true /\
  ∀ H', Kp [a] H H' -> GAt cls ks H' a (g.mended xs s) -> Q .non H'
def spWould : Sp := fun vs H Q E => ∃ (a p : Addr) (g : Gnd) (xs : List Int) (s : Int), vs = [.ref a, .ref p, .int s] /\ GAt cls ks H a g /\ g.Ok /\ g.Small 0 /\ SqT K H p (xs.map V.int) /\
  (xs.length ≠ g.many -> ∀ H', Same H H' -> E (.ref np) none H') /\ (xs.length = g.many -> g.has s = false -> Bits 1900 s /\ ∀ H', Same H H' -> E (.ref ns) none H') /\
  (xs.length = g.many -> g.has s = true -> g.PtOk xs /\ ∀ H', Same H H' -> Q (.bl (g.wrong xs s)) H')
def spPutG : Sp := fun vs H Q E => ∃ (a p : Addr) (g : Gnd) (xs : List Int) (s : Int), vs = [.ref a, .ref p, .int s] /\ GAt cls ks H a g /\ g.Ok /\ g.Small 0 /\ SqT K H p (xs.map V.int) /\
  (xs.length ≠ g.many -> ∀ H', Same H H' -> E (.ref np) none H') /\ (xs.length = g.many -> g.has s = false -> Bits 1900 s /\ ∀ H', Same H H' -> E (.ref ns) none H') /\
  (xs.length = g.many -> g.has s = true -> g.PtOk xs /\ ∀ H', Kp [a] H H' -> GAt cls ks H' a (g.step xs s) -> Q (.bl (g.wrong xs s)) H')
def spWtsG : Sp := fun vs H Q _ => ∃ (a : Addr) (g : Gnd), vs = [.ref a] /\ GAt cls ks H a g /\ ∀ t, HeldAt H t g -> Q (.ref t) H
def spErrG : Sp := fun vs H Q _ => ∃ (a : Addr) (g : Gnd), vs = [.ref a] /\ GAt cls ks H a g /\ Q (.int g.err) H
def spMv : Sp := fun vs H Q _ => ∃ (a b : Addr) (ws xs : List Int) (c : Int), vs = [.ref a, .ref b, .int c] /\ SqT K H a (ws.map V.int) /\ SqT K H b (xs.map V.int) /\ xs ≠ [] /\ xs.length <= 900 /\ ws.length <= 1000 /\ (c = 1 \/ c = -1) /\ (∀ x ∈ xs, -1000 <= x /\ x <= 1000) /\
  ∀ r H', Same H H' -> H r = none -> H' r = some (.tup ((mv c ws (xs ++ [1])).map V.int)) -> Q (.ref r) H'
end
structure BFs (m : Nat) (t : Addr) (fs : List (Str × V)) : Prop where
  many : fs.lookup ("many" : Str) = some (.int m)
  held : fs.lookup ("held" : Str) = some (.ref t)
  made : fs.lookup ("made" : Str) = some (.int 0)
  few : fs.length <= 3
  no : ∀ f : Str, f ∉ (["many", "held", "made"] : List Str) -> fs.lookup f = none
def spBI (cls : Nat -> Addr) (ks : List Nat) : Sp := fun vs H Q _ => ∃ (x C dx : Addr) (m : Nat), vs = [.ref x, .int m] /\ H x = some (.ins C dx []) /\ Kds cls ks C /\ 0 < m /\ m <= 12 /\
  ∀ H' fs t, OffD x H H' -> H' x = some (.ins C dx fs) -> BFs m t fs -> H' t = some (.tup (List.replicate (m + 1) (V.int 0))) -> Q .non H'
theorem BFs.gfs {m : Nat} {t : Addr} {fs : List (Str × V)} {g : Gnd} (b : BFs m t fs) (e1 : g.many = m) (e2 : g.err = 0) (e3 : ∀ h, g = .p h -> h.kd ≠ 2) (e4 : ∀ h, g ≠ .s h) : GFs g t fs :=
  ⟨by rw [e1]; exact b.many, b.held, by rw [e2]; exact b.made, fun h e k => absurd k (e3 h e), fun h e => absurd e (e4 h), by have := b.few; omega, fun f hf => b.no f fun z => hf (by
    simp only [List.mem_cons, List.not_mem_nil, or_false] at z ⊢
    rcases z with z | z | z <;> simp [z])⟩
theorem kd_of {cls : Nat -> Addr} {ks : List Nat} {K : PySem.W.Frag} (HT : HTx K cls ks) {k : Nat} (hk : k ∈ ks) {vs : List V} {H : Hp} (h : ∃ (a : Addr) (us : List V) (dx : Addr) (fs : List (Str × V)), vs = .ref a :: us /\ H a = some (.ins (cls k) dx fs)) :
    ∀ a g us, vs = .ref a :: us -> GAt cls ks H a g -> g.kd = k := by
  intro a g us e q
  obtain ⟨a2, us2, dx, fs, e2, hi⟩ := h
  rw [e] at e2
  cases e2
  obtain ⟨dx2, fs2, t, e3, _⟩ := q.ex
  rw [hi] at e3
  have e5 := Option.some.inj e3
  injection e5 with h1 h2 h3
  exact (HT.inj _ hk _ q.kin h1).symm
section
variable {K : PySem.W.Frag} {cls : Nat -> Addr} {ks : List Nat} {np ns : Addr} {vs : List V} {H : Hp} {Q : VK} {E : XK}
theorem init_h {C : Addr} {kd : Nat} (hC : C = cls kd) (hk : kd ∈ ks) (h2 : kd < 2) (h : SpInit C (spNew (hI cls ks) kd) vs H Q E) : spBI cls ks vs H Q E := by
  obtain ⟨x, dx, us, H1, rfl, hx, hd, hn, rfl, m, g, e, h0, h4, q⟩ := h
  rw [if_neg (by omega)] at e
  subst e
  refine ⟨x, C, dx, m, rfl, upd_same, ⟨kd, hk, hC⟩, h0, by omega, fun H2 fs t kp hX2 F1 ht => ?_⟩
  have sm : Same H1 H2 := fun b o hb => by
    have bx : b ≠ x := ne_of_none hb hx
    have bd : b ≠ dx := ne_of_none hb hd
    exact kp b o bx (by rw [upd_ne bx, upd_ne bd]; exact hb)
  refine q x H2 sm hx ⟨⟨dx, fs, t, ?_, F1.gfs rfl rfl (fun h e => ?_) (fun h e => by cases e), ?_⟩, hk, fun h e => by cases e; show kd < 3; omega, fun h e => by cases e⟩ rfl
  · rw [hX2, hC]; rfl
  · cases e; show kd ≠ 2; omega
  · show H2 t = some (.tup ((Hnd.new kd g m).ws.map V.int))
    rw [ht]; unfold Hnd.new; simp
end
end Mw
namespace Mw
def clsK (C0 C1 C2 C3 C4 b : PySem.Addr) : Nat -> PySem.Addr
  | 0 => C0
  | 1 => C1
  | 2 => C2
  | 3 => C3
  | 4 => C4
  | _ => b
end Mw
namespace L2
open PySem PySem.Spec PyProof.Rows
structure ExcA (K : PySem.W.Frag) (C : Addr) : Prop where
  ga : PySem.W.findIn K (.ref C) "__getattribute__" = some (some (.builtin "BaseException.__getattribute__"))
  gg : PySem.W.findIn K (.ref C) "__getattr__" = some none
  ca : PySem.W.findIn K (.ref C) "__class__" = some (some (.builtin "object.__class__"))
  sp : PySem.W.specialIn K (.builtin "object.__class__") "__get__" = some (some (.builtin "getset_descriptor.__get__"))
  tk : PySem.W.takesIn K (.builtin "object.__class__") = some true
  ob : PySem.W.mroIn K C (.type "object") = some true
  be : PySem.W.mroIn K C (.type "BaseException") = some true
section
variable {prog : Program} {w : World} {A : Around} {E : Value -> Shared -> Prop} {s : Shared} {K : PySem.W.Frag} {x C : Addr}
open PySem.W Builtin Builtin.ObjectAttr Builtin.Getset_descriptor in
theorem exc_class_get {R : Result -> Shared -> Prop} {tp : Value} (X : K.In s.heap) (L : Looks (model prog w) s.heap (typeOf (.ref x)) (.ref C)) (hm : mroIn K C (.type "object") = some true)
    (h : R (.ok (.ret (.ref C))) s) : codeAny (model prog w) A (.call (.builtin "getset_descriptor.__get__") ⟨[.builtin "object.__class__", .ref x, tp], []⟩) R s := by
  obtain ⟨hp, g, dr, t, os⟩ := s
  have L1 := looks_mroIn (M := model prog w) X hm
  refine (codeAny_call_builtin KF.slot_gs.plain KF.entry_gs (KF.slot_gs.check _ _ _ _ _ _ _ _ KF.type_class (KF.args_gs _ _ _) ?_))
  unfold Builtin.«getset_descriptor.__get__» descrGet
  rw [dga_obj]
  refine (wpAny_bind (wpAny_pure ?_))
  unfold descrGetter descrCheckInstance descrNameAndClass isInstance
  simp only [KF.owner_class]
  repeat lk
  refine ⟨Code.quiet_builtin _ (by decide +kernel), (codeAny_builtin KF.entry_class ?_)⟩
  unfold Builtin.«object.__class__» shownTypeOf
  repeat lk
  exact h
open PySem.W in
theorem exc_find {M : Model} {h : Heap} (X : K.In h) (q : ExcA K C) : Looks M h (Builtin.ObjectAttr.find (.ref x) (.ref C) "__class__") (.bind (.builtin "getset_descriptor.__get__") (.builtin "object.__class__")) := by
  have L1 := looks_findIn (M := M) X q.ca
  have L2 := looks_specialIn (M := M) X q.sp
  have L3 := looks_takesIn (M := M) X q.tk
  have L4 : Looks M h (Builtin.ObjectAttr.dataDescriptor? (some (.builtin "object.__class__")) (some (.builtin "getset_descriptor.__get__"))) (some (.builtin "getset_descriptor.__get__", .builtin "object.__class__")) := L3.andThen .now
  exact L1.andThen (L2.andThen (L4.andThen (Looks.tag .now)))
open PySem.W in
theorem exc_ga_body {tk : Tok} {Q : Fin -> Shared -> Prop} (X : K.In s.heap) (L : Looks (model prog w) s.heap (typeOf (.ref x)) (.ref C)) (q : ExcA K C) (h : Q (.done (.ret (.ref C))) s) :
    wpAny (model prog w) A (Builtin.«object.__getattribute__» ⟨[.ref x, .str "__class__" tk], []⟩) Q E s := by
  obtain ⟨hp, g, d, t, os⟩ := s
  have F1 := exc_find (M := model prog w) (x := x) X q
  unfold Builtin.«object.__getattribute__»
  refine wpAny_bind (wpAny_of_eq (a := (Value.ref x, [Value.str "__class__" tk])) (by rfl) ?_)
  refine wpAny_bind (wpAny_of_eq (a := ("__class__" : Str)) (by rfl) ?_)
  refine wpAny_bind (L.at (wpAny_bind (F1.at ?_)))
  show wpAny _ _ (Builtin.ObjectAttr.bindTo (.builtin "getset_descriptor.__get__") (.builtin "object.__class__") (.ref x) (.ref C)) _ _ _
  unfold Builtin.ObjectAttr.bindTo
  refine wpAny_bind (wpAny_holding (wpAny_call (exc_class_get X L q.ob ?_)))
  exact wpAny_pure h
theorem exc_check {M : Model} {nameV : Value} {Q : Unit -> Shared -> Prop} (L : PySem.W.Looks M s.heap (typeOf (.ref x)) (.ref C)) (LB : PySem.W.Looks M s.heap (isSubtype (.ref C) (.type "BaseException")) true) (hq : Q () s) :
    wpAny M A (checkBuiltinCall "BaseException.__getattribute__" ⟨[.ref x, nameV], []⟩) Q E s := by
  obtain ⟨hp, g, d, t, os⟩ := s
  have hk : builtinKind "BaseException.__getattribute__" = some .slot := by decide +kernel
  have hsplit : splitId "BaseException.__getattribute__" = some ("BaseException", "__getattribute__") := by decide +kernel
  have ha := F.args_bexc_ga (.ref x) nameV
  simp only [checkBuiltinCall, hk, hsplit]
  refine wpAny_bind ((L.andThen LB : PySem.W.Looks M hp (isInstance (.ref x) (.type "BaseException")) true).at ?_)
  repeat (any_goals (first | assumption | wp_step))
open PySem.W in
theorem exc_class {Q : Option Value -> Shared -> Prop} (X : K.In s.heap) (L : Looks (model prog w) s.heap (typeOf (.ref x)) (.ref C)) (q : ExcA K C) (h : Q (some (.ref C)) { s with toks := s.toks + 1 }) : wpAny (model prog w) A (getAttr? (.ref x) "__class__") Q E s := by
  obtain ⟨hp, g, d, t, os⟩ := s
  have L1 := looks_findIn (M := model prog w) X q.ga
  have L2 := looks_findIn (M := model prog w) X q.gg
  have L3 := looks_mroIn (M := model prog w) X q.be
  unfold getAttr? getAttrBy? getAttrBy
  refine wpAny_bind (wpAny_mkText (wpAny_bind (wpAny_attempt (wpAny_holding (wpAny_bind (L.at (wpAny_bind (L1.at ?_))))))))
  have e : (onTheHeap (Value.ref C) && Value.builtin "BaseException.__getattribute__" == Value.builtin "object.__getattribute__") = false := by
    have : (Value.builtin "BaseException.__getattribute__" == Value.builtin "object.__getattribute__") = false := by decide +kernel
    rw [this]; rfl
  dsimp only
  rw [e, if_neg Bool.false_ne_true]
  unfold getAttrByItsOwn hookBefore
  refine wpAny_bind ?_
  show wpAny _ _ (typeLookup (.ref C) "__getattr__") _ _ _
  refine L2.at ?_
  refine wpAny_bind (wpAny_attempt (wpAny_holding ?_))
  show wpAny _ _ (boundAndCalled (.builtin "BaseException.__getattribute__") (.ref x) (.str "__class__" t)) _ _ _
  unfold boundAndCalled
  refine wpAny_bind (wpAny_of_eq (F.attr_ValueError.ga.bind (.ref x)) ?_)
  show wpAny _ _ (call (.builtin "BaseException.__getattribute__") [.ref x, .str "__class__" t]) _ _ _
  refine wpAny_call (codeAny_call_builtin F.attr_ValueError.ga.plain F.entry_bexc_ga (exc_check L L3 (exc_ga_body X L q ?_)))
  exact wpAny_pure (wpAny_pure h)
theorem kitx_exc (q : ExcA K C) (hc : (PySem.W.clsIn K C).isSome = true) : PySem.W.KitX K (.ref x) (.ref C) (fun h => ∃ o, h.get? x = some o /\ o.cls = .ref C) where
  ty := fun M h _ ⟨o, e, c⟩ => c ▸ (PySem.W.Looks.ld e).andThen .now
  it := fun M h X _ => by
    obtain ⟨cd, hcd⟩ := Option.isSome_iff_exists.mp hc
    unfold PySem.W.clsIn at hcd
    split at hcd
    · rename_i ho
      intro A' Q' E' s' k z
      unfold isType loadHead
      exact wpAny_bind (wpAny_loadPart (k _ _ (X _ _ ho)) (wpAny_pure z))
    · cases hcd
  ne := fun h tp dd its n sl X htp => by
    obtain ⟨cd, hcd⟩ := Option.isSome_iff_exists.mp hc
    refine Bool.eq_false_iff.mpr fun z => ?_
    have e : C = tp := Value.ref.inj (beq_iff_eq.mp z)
    subst e
    unfold PySem.W.clsIn at hcd
    split at hcd
    · rename_i ho
      have z2 := (X _ _ ho).symm.trans htp
      cases z2
    · cases hcd
  ca := fun X ⟨o, e, c⟩ k => exc_class X (c ▸ (PySem.W.Looks.ld e).andThen .now) q k
end
section
variable {X : Cx} {K : PySem.W.Frag}
theorem mro_cls {K : PySem.W.Frag} {C : Addr} {b : Value} {r : Bool} (e : PySem.W.mroIn K C b = some r) : (PySem.W.clsIn K C).isSome = true := by
  obtain ⟨cd, a, _⟩ := Option.bind_eq_some_iff.mp e
  rw [a]; rfl
end
end L2
namespace L2
open PySem PySem.Spec PyProof.Rows
theorem DefAt.calX {P : Program} {w : World} {K : PySem.W.Frag} {mg : Str -> Option Value} {base h : Heap} {x : Str} {st : Stmt} {ps : List Str} {k : Nat} {sp : Sp} (D : DefAt K x st) (X : K.In h) (G : h.Ns mainGlobals mg) (hb : BindAt x st ps) (mk : ∀ f fd, Fun K x x st f fd -> FnOk P w K mg base (CXE P w) k f fd ps sp) : CalX P w K mg base k x ps sp := by
  obtain ⟨f, oc, od, osl, kV, doc, pm, an, cdv, ct, a, l, c, kk⟩ := D.ex
  have F := fun_mk (st := st) l c kk
  exact ⟨⟨f, _, mk f _ F, PySem.W.mg_of X G a, kk, F.binds hb⟩⟩
theorem pe_cls {X : Cx} {x : Str} {C : Addr} {pos : Pos} (hg : Gl X x) (hm : X.mg x = some (.ref C)) (hd : (x == ("__debug__" : Str)) = false := by decide) : PE X (.Name x pos) (tC (.ref C)) := pe_glob hg hm rfl hd
structure ClN (mg : Str -> Option Value) (x : Str) (C : Addr) : Prop where
  g : mg x = some (.ref C)
end L2
namespace Mw
open PySem L2
def spPart (nf : Addr) : Sp := fun vs H Q E => ∃ t b : Int, vs = [.int t, .int b] /\ Bits 3000 t /\ Bits 3000 b /\ (b = 0 -> E (.ref nf) none H) /\ (b ≠ 0 -> ∀ p, H p = none -> Q (.ref p) (upd H p (.tup [.int (ptop t b), .int (pbot t b)])))
end Mw
namespace Mw
open PySem L2
theorem at0 (x y : Int) : atI [V.int x, V.int y] 0 = some (.int x) := rfl
theorem at1 (x y : Int) : atI [V.int x, V.int y] 1 = some (.int y) := rfl
def topMul (t1 _ t2 _ : Int) : Int := t1 * t2
def botMul (_ b1 _ b2 : Int) : Int := b1 * b2
def spFrac (K : PySem.W.Frag) (nf : Addr) (X Y : Int -> Int -> Int -> Int -> Int) : Sp := fun vs H Q E => ∃ (a c : Addr) (t1 b1 t2 b2 : Int), vs = [.ref a, .ref c] /\ SqT K H a [.int t1, .int b1] /\ SqT K H c [.int t2, .int b2] /\ Bits 1000 t1 /\ Bits 1000 b1 /\ Bits 1000 t2 /\ Bits 1000 b2 /\
  (Y t1 b1 t2 b2 = 0 -> E (.ref nf) none H) /\ (Y t1 b1 t2 b2 ≠ 0 -> ∀ p, H p = none -> Q (.ref p) (upd H p (.tup [.int (ptop (X t1 b1 t2 b2) (Y t1 b1 t2 b2)), .int (pbot (X t1 b1 t2 b2) (Y t1 b1 t2 b2))])))
end Mw
namespace L2
open PySem PySem.Spec PyProof.Rows
theorem comp_zip_filter {K : PySem.W.Frag} {b1 b2 : Bool} {a1 a2 : Addr} {us vs : List V} {fr : List (Option Nat)} {g : TG} {tc : TT} {te : TE} {D : Addr} {σ : St} {H1 : Hp} {Q : VK} (p : Nat -> Bool) (f : Nat -> V) (h1 : SqB K b1 H1 a1 us) (h2 : SqB K b2 H1 a2 vs) (hn : us.length <= sizeLine) (hD : H1 D = none)
    (hs : ∀ (i : Nat) x y T H (R : VK) (R' : Hp -> Prop), us[i]? = some x -> vs[i]? = some y -> Same H1 H -> H T = none -> (p i = true -> ∀ H', Same (upd H T (.tup [x, y])) H' -> R (f i) H') -> (p i = false -> ∀ H', Same (upd H T (.tup [x, y])) H' -> R' H') ->
      g (.ref T) (carry fr σ) (upd H T (.tup [x, y])) fun σ2 H2 => Wk (carry fr σ) σ2 /\ tc σ2 H2 fun b H3 => if b = true then te σ2 H3 R else R' H3)
    (q : ∀ H', Same H1 H' -> H' D = some (.lst (picked p f (min us.length vs.length))) -> Q (.ref D) H') : tTurns fr g tc te D (Itz K b1 b2 a1 a2) σ H1 Q := by
  refine comp_zip (us := us) (vs := vs) (fun i ys H => Same H1 H /\ H D = some (.lst ys) /\ ys = picked p f i) ⟨Same.new hD _, upd_same, rfl⟩
    (fun i ys H hi ⟨_, e, z⟩ => ⟨e, by rw [z]; exact picked_len p f i⟩) (fun i ys H hi ⟨e, _, _⟩ => ⟨e.seqB h1, e.seqB h2⟩) hn ?_ (fun ys H ⟨e1, e2, e3⟩ => q H e1 (by rw [<- e3]; exact e2))
  rintro i x y T ys H hx hy hT ⟨e1, e2, e3⟩
  have s0 := Same.new hT (.tup [x, y])
  refine hs i x y T H _ _ hx hy e1 hT (fun hp H' s => ⟨(s0.trans s) _ _ e2, (e1.trans (s0.trans s)).upd_old hD, upd_same, ?_⟩) (fun hp H' s => ⟨e1.trans (s0.trans s), (s0.trans s) _ _ e2, ?_⟩)
  · rw [picked_succ, if_pos hp, e3]
  · rw [picked_succ, if_neg (by rw [hp]; simp), e3]
end L2
namespace Mw
open PySem L2
variable [LamPos]
theorem paired_of_get {α β : Type} {R : α -> β -> Prop} : ∀ {as : List α} {bs : List β}, as.length = bs.length -> (∀ (j : Nat) a b, as[j]? = some a -> bs[j]? = some b -> R a b) -> Paired R as bs
  | [], [], _, _ => .nil
  | [], _ :: _, h, _ => by simp at h
  | _ :: _, [], h, _ => by simp at h
  | a :: as, b :: bs, h, q => (.cons (q 0 a b rfl rfl) (paired_of_get (by simpa using h) fun j x y hx hy => q (j + 1) x y (by simpa using hx) (by simpa using hy)))
theorem zip_range {n : Nat} {pw p : List Int} (h1 : pw.length = n) (h2 : p.length = n) : pw.zip p = (List.range n).map fun i => (pw.getD i 0, p.getD i 0) := by
  refine List.ext_getElem? fun j => ?_
  rw [List.getElem?_map]
  by_cases h : j < n
  · rw [List.getElem?_range h, (List.getElem?_zip_eq_some (z := (pw[j]'(by omega), p[j]'(by omega)))).mpr ⟨List.getElem?_eq_getElem (by omega), List.getElem?_eq_getElem (by omega)⟩]
    simp [List.getD_eq_getElem?_getD, h1, h2, h]
  · rw [List.getElem?_eq_none (by rw [List.length_zip]; omega), List.getElem?_eq_none (by rw [List.length_range]; omega)]; rfl
theorem much_range {n : Nat} {pw p : List Int} {e : Nat} (h1 : pw.length = n) (h2 : p.length = n) : much pw p e = (((List.range n).filter fun i => decide (p.getD i 0 = 1)).map fun i => (2 : Int) ^ (pw.getD i 0 + (e : Int)).toNat).sum := by
  unfold much
  rw [zip_range h1 h2, List.filter_map, List.map_map]
  rfl
theorem tb_div {w : Int} {E : Nat} (h : (-w).toNat <= E) : top2 w * (2 ^ E / bot2 w) = 2 ^ (w + (E : Int)).toNat := by
  unfold top2 bot2
  obtain ⟨d, rfl⟩ : ∃ d, E = d + (-w).toNat := ⟨E - (-w).toNat, by omega⟩
  rw [Int.pow_add, Int.mul_ediv_cancel _ (Int.ne_of_gt (pow2_pos _)), <- Int.pow_add]
  congr 1
  omega
theorem bits_pow {k n : Nat} (h : k < n) : Bits n ((2 : Int) ^ k) := by
  show ((2 : Int) ^ k).natAbs < 2 ^ n
  rw [Int.natAbs_pow]
  exact Nat.pow_lt_pow_right (by decide) h
section
variable (K : PySem.W.Frag) (I : HandG Vnd) (np ns : Addr)
def spNewV : Sp := fun vs H Q _ => ∃ m : Nat, vs = [V.int m] /\ 0 < m /\ m <= 12 /\ ∀ r H', Same H H' -> H r = none -> I.At H' r (Vnd.new m) -> Q (.ref r) H'
end
theorem spNewV_mono {I : HandG Vnd} : SpMono (spNewV I) := fun vs H Q Q' E m ⟨n, e, h0, h1, q⟩ => ⟨n, e, h0, h1, fun r H' s n2 w => m _ _ (q r H' s n2 w)⟩
theorem spNewS_mono {I : HandG Snd} : SpMono (spNewS I) := fun vs H Q Q' E m ⟨n, k, e, h0, h1, h2, h3, ht, q⟩ => ⟨n, k, e, h0, h1, h2, h3, ht, fun r H' s n2 w => m _ _ (q r H' s n2 w)⟩
end Mw
namespace L2
open PySem PySem.Spec PyProof.Rows
def Deep (K : PySem.W.Frag) (H : Hp) : Nat -> V -> V -> Prop
  | 0, x, y => x = y /\ plainV x = true
  | n + 1, x, y => (x = y /\ plainV x = true) \/ ∃ a b xs ys, x = .ref a /\ y = .ref b /\ ((SqL K H a xs /\ SqL K H b ys) \/ (SqT K H a xs /\ SqT K H b ys)) /\ Paired (Deep K H n) xs ys
theorem Deep.same {K : PySem.W.Frag} {H : Hp} {n : Nat} {x : V} (h : plainV x = true) : Deep K H n x x := by
  cases n with
  | zero => exact ⟨rfl, h⟩
  | succ n => exact .inl ⟨rfl, h⟩
theorem Deep.all {K : PySem.W.Frag} {H : Hp} {n : Nat} : ∀ {xs : List V}, xs.all plainV = true -> Paired (Deep K H n) xs xs
  | [], _ => .nil
  | x :: xs, h => by
    rw [List.all_cons, Bool.and_eq_true] at h
    exact .cons (Deep.same h.1) (Deep.all h.2)
theorem all_true (k : Nat) : ((List.range k).all fun _ => true) = true := by simp
theorem Room.units8 {k : Nat} {A : Around} (r : Room k A) : A.units + 8 < cLine := by have := r.units; omega
section
variable {X : Cx} {K : PySem.W.Frag} {pins : List (Addr × Obj)} {σ : St} {H : Hp} {s : Shared}
theorem deep_vals {n : Nat} {A : Around} {xs ys : List V} {its jts : List Value} (ih : ∀ {x y : V} {u v : Value}, Deep K H n x y -> RelV x u -> RelV y v -> SeqAt.EqAt A s u v true) (p : Paired (Deep K H n) xs ys) (r1 : Vals xs its) (r2 : Vals ys jts) :
    its.length = jts.length /\ ∀ j (h1 : j < its.toArray.size) (h2 : j < jts.toArray.size), SeqAt.EqAt A s its.toArray[j] jts.toArray[j] true := by
  have l1 := r1.length
  have l2 := r2.length
  have l3 := Paired.length p
  refine ⟨by omega, fun j h1 h2 => ?_⟩
  have g1 : j < its.length := by simpa using h1
  have g2 : j < jts.length := by simpa using h2
  obtain ⟨y, hy, d⟩ := Mw.paired_get p (i := j) (a := xs[j]'(by omega)) (List.getElem?_eq_getElem (by omega))
  have ey : y = ys[j]'(by omega) := by
    rw [List.getElem?_eq_getElem (by omega)] at hy
    exact (Option.some.inj hy).symm
  subst ey
  exact ih d (vals_at r1 (by omega) g1) (vals_at r2 (by omega) g2)
theorem deep_eqAt (hK : X.K = K) (I : Inv X pins σ H s) : ∀ (n : Nat) {A : Around} {x y : V} {u v : Value}, A.units + n < cLine -> Deep K H n x y -> RelV x u -> RelV y v -> SeqAt.EqAt A s u v true := by
  subst hK
  have flat : ∀ {A : Around} {x y : V} {u v : Value}, (x = y /\ plainV x = true) -> RelV x u -> RelV y v -> SeqAt.EqAt A s u v true := by
    intro A x y u v h r1 r2
    obtain ⟨rfl, hp⟩ := h
    exact eqAt_rel r1 r2 (fun z e => by rw [e] at hp; cases hp) (fun z e => by rw [e] at hp; cases hp)
  intro n
  induction n with
  | zero => intro A x y u v _ h r1 r2; exact flat h r1 r2
  | succ n ih =>
    intro A x y u v hu h r1 r2
    rcases h with h | ⟨a, b, xs, ys, rfl, rfl, hq, p⟩
    · exact flat h r1 r2
    · cases r1
      cases r2
      by_cases hab : a = b
      · subst hab; exact SeqAt.EqAt.same _
      · refine SeqAt.EqAt.of_refs hab ?_
        rcases hq with ⟨ha, hb⟩ | ⟨ha, hb⟩
        · obtain ⟨its, r1, p1, _⟩ := I.list ha
          obtain ⟨jts, r2, p2, _⟩ := I.list hb
          obtain ⟨hl, he⟩ := deep_vals (A := A.in1) (fun d q1 q2 => ih (by show A.units + 1 + n < cLine; omega) d q1 q2) p r1 r2
          have z := SeqAt.RcAt.lists (e := fun _ => true) p1.isList p2.isList (by simpa using hl) (by omega) he
          rw [all_true] at z
          exact z
        · obtain ⟨its, r1, p1, _⟩ := I.tuple ha
          obtain ⟨jts, r2, p2, _⟩ := I.tuple hb
          obtain ⟨hl, he⟩ := deep_vals (A := A.in1) (fun d q1 q2 => ih (by show A.units + 1 + n < cLine; omega) d q1 q2) p r1 r2
          have z := SeqAt.RcAt.tuples (e := fun _ => true) p1 p2 (by omega) he
          rw [all_true, Bool.true_and, List.size_toArray, List.size_toArray, hl, beq_self_eq_true] at z
          exact z
theorem op_neDeep (n : Nat) (hK : X.K = K) (hu : X.A.units + 8 < cLine) (hn : n <= 7) : OpR X (compareOp .NotEq) (fun x y H Q => (∃ a b xs ys, x = .ref a /\ y = .ref b /\ ((SqL K H a xs /\ SqL K H b ys) \/ (SqT K H a xs /\ SqT K H b ys)) /\ Paired (Deep K H n) xs ys) /\ Q (.bl false) H) := by
  subst hK
  intro pins s σ H x y v u Q I rx ry h
  obtain ⟨⟨a, b, xs, ys, rfl, rfl, hq, p⟩, q⟩ := h
  cases rx
  cases ry
  rcases hq with ⟨ha, hb⟩ | ⟨ha, hb⟩
  · obtain ⟨its, r1, p1, _⟩ := I.list ha
    obtain ⟨jts, r2, p2, _⟩ := I.list hb
    obtain ⟨hl, he⟩ := deep_vals (A := X.A.in1) (fun d q1 q2 => deep_eqAt rfl I n (by show X.A.units + 1 + n < cLine; omega) d q1 q2) p r1 r2
    refine SeqAt.RcNeAt.lists (e := fun _ => true) p1.isList p2.isList (by simpa using hl) (by omega) he _ _ _ _ ?_
    have e : (!(List.range its.toArray.size).all fun _ => true) = false := by simp
    rw [e]
    exact ⟨.bl false, H, I, rfl, q⟩
  · obtain ⟨its, r1, p1, _⟩ := I.tuple ha
    obtain ⟨jts, r2, p2, _⟩ := I.tuple hb
    obtain ⟨hl, he⟩ := deep_vals (A := X.A.in1) (fun d q1 q2 => deep_eqAt rfl I n (by show X.A.units + 1 + n < cLine; omega) d q1 q2) p r1 r2
    refine SeqAt.RcNeAt.tuples (e := fun _ => true) p1 p2 (by omega) he _ _ _ _ ?_
    have e : (!((List.range (min its.toArray.size jts.toArray.size)).all (fun _ => true) && its.toArray.size == jts.toArray.size)) = false := by simp [hl]
    rw [e]
    exact ⟨.bl false, H, I, rfl, q⟩
end
end L2
namespace L2
open PySem
theorem len1 {A B : Type} {x0 : B} {P : List A -> Prop} (h : ∀ a0, P [a0]) : ∀ us : List A, us.length = [x0].length -> P us
  | [], e => by simp at e
  | [a0], _ => h a0
  | _ :: _ :: _, e => by simp at e
theorem len2 {A B : Type} {x0 x1 : B} {P : List A -> Prop} (h : ∀ a0 a1, P [a0, a1]) : ∀ us : List A, us.length = [x0, x1].length -> P us
  | [], e => by simp at e
  | [_], e => by simp at e
  | [a0, a1], _ => h a0 a1
  | _ :: _ :: _ :: _, e => by simp at e
theorem len3 {A B : Type} {x0 x1 x2 : B} {P : List A -> Prop} (h : ∀ a0 a1 a2, P [a0, a1, a2]) : ∀ us : List A, us.length = [x0, x1, x2].length -> P us
  | [], e => by simp at e
  | [_], e => by simp at e
  | [_, _], e => by simp at e
  | [a0, a1, a2], _ => h a0 a1 a2
  | _ :: _ :: _ :: _ :: _, e => by simp at e
theorem len4 {A B : Type} {x0 x1 x2 x3 : B} {P : List A -> Prop} (h : ∀ a0 a1 a2 a3, P [a0, a1, a2, a3]) : ∀ us : List A, us.length = [x0, x1, x2, x3].length -> P us
  | [], e => by simp at e
  | [_], e => by simp at e
  | [_, _], e => by simp at e
  | [_, _, _], e => by simp at e
  | [a0, a1, a2, a3], _ => h a0 a1 a2 a3
  | _ :: _ :: _ :: _ :: _ :: _, e => by simp at e
theorem len5 {A B : Type} {x0 x1 x2 x3 x4 : B} {P : List A -> Prop} (h : ∀ a0 a1 a2 a3 a4, P [a0, a1, a2, a3, a4]) : ∀ us : List A, us.length = [x0, x1, x2, x3, x4].length -> P us
  | [], e => by simp at e
  | [_], e => by simp at e
  | [_, _], e => by simp at e
  | [_, _, _], e => by simp at e
  | [_, _, _, _], e => by simp at e
  | [a0, a1, a2, a3, a4], _ => h a0 a1 a2 a3 a4
  | _ :: _ :: _ :: _ :: _ :: _ :: _, e => by simp at e
end L2
namespace L2
open PySem PySem.Spec PyProof.Rows
theorem Ns_one {h : Heap} {a : Addr} {m m' : Str -> Option Value} (x : h.Ns a m) (y : h.Ns a m') : m = m' := by
  obtain ⟨o, es, ep, e1, e2, _, e3⟩ := x
  obtain ⟨o', es', ep', f1, f2, _, f3⟩ := y
  rw [e1] at f1
  cases f1
  rw [e2] at f2
  cases f2
  funext n
  rw [<- e3 n, f3 n]
theorem codeO_ok {P : Program} {w : World} {H : Hp} {h : Heap} {q : Str} {c : Addr} (x : h.CodeRec (.ref c) q) : ObjOk P w H h c (codeO q c) := by
  refine ⟨x, ?_, fun h1 h2 y k => ?_⟩
  · obtain ⟨c2, o, vs, t, e, g, _⟩ := x
    cases e
    exact ⟨o, g⟩
  · obtain ⟨c2, o, vs, t, e, g, r⟩ := y
    cases e
    exact ⟨c, o, vs, t, rfl, k o g, r⟩
def lamO (q : Str) (ps : Arguments) (b : Expr) (sc : Scope) (cl : List (Str × Addr)) (c f : Addr) : HO := .ext fun h => ∃ pm ctv, h.get? f = some (PySem.W.kla_obj "<lambda>" q ps b sc cl pm c ctv)
theorem lamO_ok {P : Program} {w : World} {H : Hp} {h : Heap} {q : Str} {ps : Arguments} {b : Expr} {sc : Scope} {cl : List (Str × Addr)} {c f : Addr} {pm ctv : Value} (x : h.get? f = some (PySem.W.kla_obj "<lambda>" q ps b sc cl pm c ctv)) :
    ObjOk P w H h f (lamO q ps b sc cl c f) := ⟨⟨pm, ctv, x⟩, ⟨_, x⟩, fun h1 h2 ⟨pm, ctv, y⟩ k => ⟨pm, ctv, k _ y⟩⟩
def OffT (b : Addr) (H H' : Hp) : Prop := ∀ a o, a ≠ b -> H a = some o -> H' a = some o
def BmOk (mg : Str -> Option Value) (h : Heap) : Prop := ∃ bm ob, mg "__builtins__" = some (.ref bm) /\ bm ≠ builtinsNs /\ h.get? bm = some ob /\ ob.cls = .type "module" /\ ob.dict = some builtinsNs /\ ob.data = .plain
structure LamK (K : PySem.W.Frag) (mg : Str -> Option Value) (base : Heap) (c b : Addr) : Prop where
  hd : PySem.W.codeHdIn K c b = true
  bm : BmOk mg base
section
variable {X : Cx} {pins : List (Addr × Obj)} {σ : St} {H : Hp} {s : Shared}
theorem Inv.lam {b c' : Addr} {q : Str} {h' : Heap} {ps more : Array Value} {o : Obj} {u : HO} {t' : Nat} (I : Inv X pins σ H s) (hb : H b = some (.tbl ps)) (hx : Heap.ExtBut b s.heap h') (hge : s.heap.objs.size <= c') (hlt : c' < h'.objs.size)
    (hrec : h'.CodeRec (.ref c') q) (htb : h'.get? b = some (PySem.W.tabObj (ps ++ more))) (hu : ∀ H', ObjOk X.prog X.w H' (h'.push o) h'.objs.size u) :
    Inv X pins σ (upd (upd (upd H b (.tbl (ps ++ more))) c' (codeO q c')) h'.objs.size u) { s with heap := h'.push o, toks := t' } := by
  have hlb : b < s.heap.objs.size := I.hok.lt hb
  have n1 : ∀ a, a < s.heap.objs.size -> a ≠ h'.objs.size := fun a h => Nat.ne_of_lt (Nat.lt_of_lt_of_le h (Nat.le_of_lt (Nat.lt_of_le_of_lt hge hlt)))
  have n2 : ∀ a, a < s.heap.objs.size -> a ≠ c' := fun a h => Nat.ne_of_lt (Nat.lt_of_lt_of_le h hge)
  have e3 : ∀ a, a ≠ b -> a < s.heap.objs.size -> upd (upd (upd H b (.tbl (ps ++ more))) c' (codeO q c')) h'.objs.size u a = H a := fun a h1 h2 => by
    rw [upd_ne (n1 a h2), upd_ne (n2 a h2), upd_ne h1]
  have eb : upd (upd (upd H b (.tbl (ps ++ more))) c' (codeO q c')) h'.objs.size u b = some (.tbl (ps ++ more)) := by
    rw [upd_ne (n1 b hlb), upd_ne (n2 b hlb), upd_same]
  have kp : ∀ a x, a ≠ b -> s.heap.get? a = some x -> (h'.push o).get? a = some x := fun a x h1 e => Heap.get?_push_of_some _ (hx a x h1 e)
  have nb : ∀ a, H a = none -> a ≠ b := fun a n z => by rw [z, hb] at n; cases n
  refine I.un (H' := upd (upd (upd H b (.tbl (ps ++ more))) c' (codeO q c')) h'.objs.size u) ⟨fun a x e n _ _ => kp a x (nb a n) e, fun a x e n _ _ => ⟨x.slots, kp a x (nb a n) e⟩, fun a x e n _ => ?_, fun a x e _ => ?_, fun a xs e => ?_, fun a x y e => ?_, fun a qs e => ?_⟩ (fun a y e => ?_)
  · rw [e3 a (nb a n) (Heap.lt_size e)]; exact n
  · by_cases z : a = b
    · rw [z]; exact ⟨_, Heap.get?_push_of_some _ htb⟩
    · exact ⟨x, kp a x z e⟩
  · rw [e3 a (fun z => by rw [z, hb] at e; cases e) (I.hok.lt e)]; exact e
  · rw [e3 a (fun z => by rw [z, hb] at e; cases e) (I.hok.lt e)]; exact e
  · by_cases z : a = b
    · rw [z, hb] at e
      cases e
      rw [z]
      exact ⟨more, eb⟩
    · exact ⟨#[], by rw [e3 a z (I.hok.lt e), e]; simp⟩
  · by_cases z1 : a = h'.objs.size
    · rw [z1, upd_same] at e
      cases e
      rw [z1]
      exact hu _
    by_cases z2 : a = c'
    · rw [z2, upd_ne (Nat.ne_of_lt hlt), upd_same] at e
      cases e
      rw [z2]
      exact codeO_ok (hrec.keeps fun _ _ g => Heap.get?_push_of_some _ g)
    by_cases z3 : a = b
    · rw [z3, eb] at e
      cases e
      rw [z3]
      exact Heap.get?_push_of_some _ htb
    · rw [upd_ne z1, upd_ne z2, upd_ne z3] at e
      refine (I.hok a y e).stay (fun d x hd g => kp d x ?_ g) (fun d hd => ?_) (fun d xs hd => ?_)
      · rcases hd with rfl | hd
        · exact z3
        · exact fun z => by rw [z, hb] at hd; cases hd
      · rw [e3 d (fun z => by rw [z, hb] at hd; cases hd) (I.hok.lt hd)]; exact hd
      · rw [e3 d (fun z => by rw [z, hb] at hd; cases hd) (I.hok.lt hd)]; exact hd
theorem Inv.keptL {h' : Heap} {t' : Nat} {m : Str -> Option Value} (I : Inv X pins σ H s) (k : ∀ a x, a ≠ X.env.locals -> s.heap.get? a = some x -> h'.get? a = some x) (hn : s.heap.Ns X.env.locals m) (hn' : h'.Ns X.env.locals m) : Inv X pins σ H { s with heap := h', toks := t' } := by
  have hL : ∀ a y, H a = some y -> a ≠ X.env.locals := fun a y e z => by rw [z, I.free] at e; cases e
  refine I.step (g' := s.gens) (d' := s.drawn) (ch := []) (fun _ z => nomatch z) (fun b o h1 _ _ e _ => k b o h1 e) (fun b o h1 _ _ e _ => ⟨o.slots, k b o h1 e⟩) (fun _ _ _ _ n => n) (fun b o _ e => ?_) (fun _ _ e => e) (fun _ _ _ e => e) (fun _ ps e => ⟨#[], by rw [e]; simp⟩) (fun m2 h2 => by rw [<- Ns_one hn h2]; exact hn') (fun a y e => ?_) I.bare
  · by_cases z : b = X.env.locals
    · obtain ⟨o', _, _, e', _⟩ := hn'
      rw [z]; exact ⟨o', e'⟩
    · exact ⟨o, k b o z e⟩
  · refine (I.hok a y e).stay (fun d x hd g => k d x ?_ g) (fun _ z => z) (fun _ _ z => z)
    rcases hd with rfl | hd
    · exact hL _ _ e
    · exact hL _ _ hd
end
def tLam (q : Str) (l c : Nat) (b : Addr) (ps : Arguments) (bd : Expr) (sc : Scope) (cl : List (Str × Addr)) : TE := fun _ H Q => TbS q l c H b /\ ∀ c' f H', OffT b H H' -> TbS q l c H' b -> H' c' = some (codeO q c') -> H' f = some (lamO q ps bd sc cl c' f) -> Q (.ref f) H'
section
variable {X : Cx}
theorem pe_lam {q : Str} {c b : Addr} {ps : Arguments} {bd : Expr} {sc : Scope} {cl : List (Str × Addr)} {pos : Pos} (L : LamK X.K X.mg X.base c b) (hcd : X.env.code = .ref c) (hq : X.env.qual ++ "<lambda>" = q) (hcl : closureFor sc X.env = pure cl)
    (hdf : defaultsOf ps X.env = ([], []) := by rfl) : PE X (.Lambda ps bd sc pos) (tLam q pos.line pos.col b ps bd sc cl) := by
  intro pins s σ H Q I h
  obtain ⟨hT, k⟩ := h
  refine PySem.W.kla_eval hdf ?_
  rw [hq]
  have KI := I.kIn
  have hC : PySem.W.CodeHd s.heap c b := PySem.W.codeHd_of_K KI L.hd
  obtain ⟨bm, ob, b1, b2, b3, b4, b5, b6⟩ := L.bm
  have hbmo := I.bk _ _ b3
  have hg : s.heap.Ns mainGlobals X.mg := I.mod.glob.keeps I.bk
  have hbG : bm ≠ mainGlobals := fun z => by
    obtain ⟨o', es, ep, e', hd', _⟩ := hg
    rw [z, e'] at hbmo; cases hbmo; rw [b6] at hd'; cases hd'
  have hgb : ∀ o : Obj, s.heap.get? b = some o -> (∃ vs, o.data = .fields vs) -> mainGlobals ≠ b /\ bm ≠ b := fun o e hd => by
    obtain ⟨vs, hd⟩ := hd
    refine ⟨fun z => ?_, fun z => ?_⟩
    · obtain ⟨o', es, ep, e', hd', _⟩ := hg
      rw [z, e] at e'; cases e'; rw [hd] at hd'; cases hd'
    · rw [z, e] at hbmo; cases hbmo; rw [b6] at hd; cases hd
  rcases hT with hb | ⟨c', hb, hc'⟩
  · have hP : s.heap.get? b = some (PySem.W.tabObj #[]) := I.hok b _ hb
    obtain ⟨g1, g2⟩ := hgb _ hP ⟨_, rfl⟩
    refine PySem.W.kla_makeFunction (mg := X.mg) hcl I.ok.glob hg hcd hC hP trivial rfl g1 ⟨bm, ob, b1, b2, hbG, g2, hbmo, b4, b5, b6⟩ fun c' ctv h' tk hx hge hlt hrec htb => ?_
    have J := I.lam (t' := tk) (o := PySem.W.kla_obj "<lambda>" q ps bd sc cl ((X.mg "__name__").getD .none) c' ctv) (u := lamO q ps bd sc cl c' h'.objs.size) hb hx hge hlt hrec htb fun H' => lamO_ok (Heap.get?_push_size _ rfl)
    have hlb : b < s.heap.objs.size := I.hok.lt hb
    have e1 : upd (upd (upd H b (.tbl (#[] ++ #[rawInt pos.line, rawInt pos.col, .ref c']))) c' (codeO q c')) h'.objs.size (lamO q ps bd sc cl c' h'.objs.size) c' = some (codeO q c') := by rw [upd_ne (Nat.ne_of_lt hlt), upd_same]
    have n1 : ∀ a, a < s.heap.objs.size -> a ≠ h'.objs.size := fun a h => Nat.ne_of_lt (Nat.lt_of_lt_of_le h (Nat.le_of_lt (Nat.lt_of_le_of_lt hge hlt)))
    have n2 : ∀ a, a < s.heap.objs.size -> a ≠ c' := fun a h => Nat.ne_of_lt (Nat.lt_of_lt_of_le h hge)
    refine ⟨.ref h'.objs.size, _, J, rfl, k c' h'.objs.size _ (fun a o hne e => ?_) (.inr ⟨c', ?_, e1⟩) e1 upd_same⟩
    · have h2 := I.hok.lt e
      rw [upd_ne (n1 a h2), upd_ne (n2 a h2), upd_ne hne]; exact e
    · rw [upd_ne (n1 b hlb), upd_ne (n2 b hlb), upd_same]; rfl
  · have hP : s.heap.get? b = some (PySem.W.tabObj #[rawInt pos.line, rawInt pos.col, .ref c']) := I.hok b _ hb
    obtain ⟨g1, g2⟩ := hgb _ hP ⟨_, rfl⟩
    refine PySem.W.kla_makeFunctionHit (mg := X.mg) (cv := .ref c') hcl I.ok.glob hg hcd hC hP ⟨⟩ (by simp [codeAmong, rawInt]) ⟨bm, ob, b1, b2, hbG, g2, hbmo, b4, b5, b6⟩ fun ctv h' tk hk hsz => ?_
    have J := I.laid (t' := tk) (h' := h'.push (PySem.W.kla_obj "<lambda>" q ps bd sc cl ((X.mg "__name__").getD .none) c' ctv)) (a := h'.objs.size) (o := lamO q ps bd sc cl c' h'.objs.size) (fun a x e => Heap.get?_push_of_some _ (hk a x e)) hsz (lamO_ok (Heap.get?_push_size _ rfl))
    have ne : ∀ a x, H a = some x -> a ≠ h'.objs.size := fun a x e => Nat.ne_of_lt (Nat.lt_of_lt_of_le (I.hok.lt e) hsz)
    refine ⟨.ref h'.objs.size, _, J, rfl, k c' h'.objs.size _ (fun a o _ e => by rw [upd_ne (ne a o e)]; exact e) (.inr ⟨c', by rw [upd_ne (ne _ _ hb)]; exact hb, by rw [upd_ne (ne _ _ hc')]; exact hc'⟩) (by rw [upd_ne (ne _ _ hc')]; exact hc') upd_same⟩
end
structure LamB (x y : Str) (ps : Arguments) (bd : Expr) (sc : Scope) : Prop where
  bdE : ∃ p1 p2 p3, bd = .Subscript (.Name x p1) (.Name y p2) p3
  bind : ∀ (n q : Str) (cl : List (Str × Addr)) (pm cdv ct u : Value), bindArgs (PySem.W.kla_fn n q ps bd sc cl pm cdv ct) ⟨[u], []⟩ = pure [(y, u)]
  kind : sc.kind = .function
  co : sc.isCoroutine = false
  gen : sc.isGenerator = false
  ly : sc.names.lookup y = some .local
  lx : sc.names.lookup x = some .free
  nc : ∀ z ∈ sc.names, z.2 ≠ .cell
  dx : (x == ("__debug__" : Str)) = false
  dy : (y == ("__debug__" : Str)) = false
  cx : (x == ("__classdict__" : Str)) = false
section
variable {X : Cx} {pins : List (Addr × Obj)} {σ : St} {H : Hp} {s : Shared}
def BestBy (vs ns : List Int) (m : Int) : Prop := ∃ i : Nat, ns[i]? = some m /\ ∀ (j : Nat) k, ns[j]? = some k -> vs.getD k.toNat 0 <= vs.getD m.toNat 0 /\ (j < i -> vs.getD k.toNat 0 < vs.getD m.toNat 0)
theorem max_lam {x y : Str} {i : Nat} {a pd f c' cc : Addr} {q : Str} {ps : Arguments} {bd : Expr} {sc : Scope} {ns vs : List Int} {Q : VK} {E : Value -> Shared -> Prop} (hc : X.calm = true) (hr : X.A.depth + 4 < recursionLimit) (B : LamB x y ps bd sc) (I : Inv X pins σ H s)
    (ha : SqL X.K H a (ns.map V.int)) (hne : 0 < ns.length) (hN : X.N[i]? = some x) (hσ : σ[i]? = some (some (.ref pd))) (hk : X.env.kindOf x = some .cell) (hcc : X.env.cells.lookup x = some cc) (hvis : Vis X.env.scope x)
    (hpd : SqL X.K H pd (vs.map V.int)) (hin : ∀ n ∈ ns, 0 <= n /\ n < (vs.length : Int)) (hf : H f = some (lamO q ps bd sc [(x, cc)] c' f)) (hc' : H c' = some (codeO q c')) (k : ∀ m, BestBy vs ns m -> Q (.int m) H) :
    wpAny (model X.prog X.w) X.A (call (.builtin "max") [.ref a] [(Str.ofString "key", .ref f)]) (EP X pins σ Q) E s := by
  obtain ⟨m, F⟩ := I.fr
  have N : News X.base X.env.locals s.heap (allNews X.base s.heap X.env.locals) := news_all
  have kp : ∀ h own, Fr X.base X.env.locals h m -> News X.base X.env.locals h (allNews X.base s.heap X.env.locals ++ own) -> ∀ b o, b ≠ X.env.locals -> s.heap.get? b = some o -> h.get? b = some o := fun h own F' N' b o hb e => by
    cases z : X.base.get? b with
    | some u =>
      have := I.bk b u z
      rw [e] at this
      cases this
      exact F'.keep b o z
    | none => exact (N' (b, o) (List.mem_append_left _ (mem_allNews hb z e))).1
  obtain ⟨its, rv, pl, hz⟩ := I.list ha
  obtain ⟨jts, rw', pl2, hz2⟩ := I.list hpd
  have hl1 : ns.length = its.length := by rw [<- rv.length, List.length_map]
  have hl2 : vs.length = jts.length := by rw [<- rw'.length, List.length_map]
  have neL : ∀ b u, H b = some u -> b ≠ X.env.locals := fun b u e z => by rw [z, I.free] at e; cases e
  have listK : ∀ h own, Fr X.base X.env.locals h m -> News X.base X.env.locals h (allNews X.base s.heap X.env.locals ++ own) -> ∀ l items, s.heap.IsList l items -> l ≠ X.env.locals -> h.IsList l items := fun h own F' N' l items ⟨o, e, r⟩ hl => ⟨o, kp h own F' N' l o hl e, r⟩
  have nl : ∀ l items, s.heap.IsList l items -> l ≠ X.env.locals := fun l items ⟨o, e, hcl, n, hd⟩ z => by
    obtain ⟨o2, es, ep, e2, hd2, _⟩ := F.ns
    rw [z, e2] at e; cases e; rw [hd] at hd2; cases hd2
  have hla := nl _ _ pl.isList
  have hlp := nl _ _ pl2.isList
  obtain ⟨m0, hn0, hl0⟩ := I.loc
  obtain ⟨u, ru, lk⟩ := hl0 i x _ hN hσ hvis
  obtain rfl : u = Value.ref pd := ru
  have hcell : s.heap.IsCell cc (some (.ref pd)) := by
    rcases lk with ⟨e, _⟩ | ⟨_, c2, e, z⟩
    · rw [hk] at e; cases e
    · rw [hcc] at e; cases e; exact z
  obtain ⟨pm, ctv, hfo⟩ := (I.hok f _ hf).1
  have hcr : s.heap.CodeRec (.ref c') q := (I.hok c' _ hc').1
  obtain ⟨p1, p2, p3, rfl⟩ := B.bdE
  refine PyProof.Rows.kmk_max (vs := its) (news := allNews X.base s.heap X.env.locals) (fun j => vs.getD (ns.getD j 0).toNat 0) (I.ok.hd hc) F N (fun h F' N' => listK h [] F' (by rw [List.append_nil]; exact N') _ _ pl.isList hla) (by omega) (fun j v hv h tk own F' N' => ?_) (fun j v h' tk' hv hb F' N' => ?_)
  · have hj : j < ns.length := by have := (List.getElem?_eq_some_iff.mp hv).1; omega
    obtain ⟨u, hu, ru⟩ := rv.get (i := j) (x := V.int (ns[j])) (by rw [List.getElem?_map, List.getElem?_eq_getElem hj]; rfl)
    rw [hv] at hu
    cases hu
    obtain ⟨t, rfl⟩ := ru
    have hnj := hin _ (List.getElem_mem hj)
    have hgd : ns.getD j 0 = ns[j] := by rw [List.getD_eq_getElem?_getD, List.getElem?_eq_getElem hj]; rfl
    have hvj : (ns[j]).toNat < vs.length := by omega
    obtain ⟨u2, hu2, ru2⟩ := rw'.get (i := (ns[j]).toNat) (x := V.int (vs[(ns[j]).toNat])) (by rw [List.getElem?_map, List.getElem?_eq_getElem hvj]; rfl)
    obtain ⟨t2, rfl⟩ := ru2
    have hgv : vs.getD (ns.getD j 0).toNat 0 = vs[(ns[j]).toNat] := by rw [hgd, List.getD_eq_getElem?_getD, List.getElem?_eq_getElem hvj]; rfl
    have kph := kp h own F' N'
    refine wpAny_call (PySem.W.kla_callFunE (o := PySem.W.kla_obj "<lambda>" q ps (.Subscript (.Name x p1) (.Name y p2) p3) sc [(x, cc)] pm c' ctv) ?_ (kph f _ (neL f _ hf) hfo) rfl B.co B.gen rfl ?_ ?_)
    · show X.A.depth < recursionLimit
      omega
    · obtain ⟨c2, o, vs2, t3, e, g, r⟩ := hcr
      cases e
      exact ⟨c', o, vs2, t3, rfl, kph c' o (neL c' _ hc') g, r⟩
    rw [B.bind]
    refine wpAny_pure (wpAny_newFunctionEnv B.nc (fun z hz => by rw [List.mem_singleton.mp hz]; exact B.ly) (fun h₁ hns hsb => ⟨?_, ?_⟩) B.kind)
    · exact (I.ok.mod.nolimit.keeps F'.keep).fresh _ hsb
    have hk₁ : ∀ b o, h.get? b = some o -> h₁.get? b = some o := fun b o e => hsb.extBut b o (Nat.ne_of_lt (Heap.lt_size e)) (Heap.get?_push_of_some _ e)
    refine PySem.W.kla_codeExpr ?_
    refine Subscript_ (wpAny_Name (wpAny_loadName_free (c := cc) (v := .ref pd) B.kind ?_ ?_ ?_ ?_ B.cx) B.dx)
    · exact B.lx
    · show List.lookup x [(x, cc)] = some cc
      simp
    · obtain ⟨o, e, d⟩ := hcell
      exact ⟨o, hk₁ _ _ (kph cc o (I.cne x cc hcc) e), d⟩
    refine wpAny_Name (wpAny_loadName_local (m := fun z => ([(y, Value.int (ns[j]) t)] : List (Str × Value)).reverse.lookup z) (v := .int (ns[j]) t) B.kind B.ly hns (by simp) ?_) B.dy
    refine item_listR (items := jts.toArray) (x := .int (vs[(ns[j]).toNat]) t2) ?_ hnj.1 (by have := line63; rw [List.length_map] at hz2; omega) (by simpa using hu2) ?_
    · obtain ⟨o, e, r⟩ := pl2.isList
      exact ⟨o, hk₁ _ _ (kph pd o hlp e), r⟩
    rw [hgv]
    exact ⟨h₁, _, t2, rfl, rfl, ⟨F'.ns.keeps hk₁, fun b o e => hk₁ b o (F'.keep b o e), F'.above⟩, fun p hp => ⟨hk₁ _ _ (N' p hp).1, (N' p hp).2⟩⟩
  · have hj : j < ns.length := by have := (List.getElem?_eq_some_iff.mp hv).1; omega
    obtain ⟨u, hu, ru⟩ := rv.get (i := j) (x := V.int (ns[j])) (by rw [List.getElem?_map, List.getElem?_eq_getElem hj]; rfl)
    rw [hv] at hu
    cases hu
    have gd : ∀ z k, ns[z]? = some k -> ns.getD z 0 = k := fun z k e => by rw [List.getD_eq_getElem?_getD, e]; rfl
    have J : Inv X pins σ H { s with heap := h', toks := tk' } := I.keptL (kp h' [] F' (by rw [List.append_nil]; exact N')) F.ns F'.ns
    refine ⟨.int (ns[j]), H, J, ru, k _ ⟨j, List.getElem?_eq_getElem hj, fun z k hk => ?_⟩⟩
    have hz3 : z < its.length := by have := (List.getElem?_eq_some_iff.mp hk).1; omega
    have := hb z hz3
    rw [gd z k hk, gd j _ (List.getElem?_eq_getElem hj)] at this
    exact ⟨by omega, fun hzj => by have := this.2 hzj; omega⟩
end
theorem OffT.seq {K : PySem.W.Frag} {H H' : Hp} {a b : Addr} {xs : List V} {ps : Array Value} (o : OffT b H H') (hb : H b = some (.tbl ps)) (h : SqL K H a xs) : SqL K H' a xs := by
  rcases h with (e | ⟨u, e⟩) | e
  · exact .inl (.inl (o _ _ (fun z => by rw [z, hb] at e; cases e) e))
  · exact .inl (.inr ⟨u, o _ _ (fun z => by rw [z, hb] at e; cases e) e⟩)
  · exact .inr e
def tMaxLam (K : PySem.W.Frag) (t : TA) (i : Nat) (q : Str) (l c : Nat) (b : Addr) : TE := fun σ H Q => t σ H fun xs H1 => ∃ (a pd : Addr) (ns vs : List Int), xs = [.ref a] /\ SqL K H1 a (ns.map V.int) /\ 0 < ns.length /\ σ[i]? = some (some (.ref pd)) /\ SqL K H1 pd (vs.map V.int) /\
  (∀ n ∈ ns, 0 <= n /\ n < (vs.length : Int)) /\ TbS q l c H1 b /\ ∀ m H2, BestBy vs ns m -> OffT b H1 H2 -> TbS q l c H2 b -> Q (.int m) H2
section
variable {X : Cx}
theorem pe_maxLam {k : Nat} {x y q : Str} {i : Nat} {c b cc : Addr} {ps : Arguments} {bd e : Expr} {sc : Scope} {p pos lp kpos : Pos} {t : TA} (L : LamK X.K X.mg X.base c b) (B : LamB x y ps bd sc) (hcalm : X.calm = true) (hr : Room k X.A) (hcd : X.env.code = .ref c) (hq : X.env.qual ++ "<lambda>" = q)
    (hN : X.N[i]? = some x) (hk : X.env.kindOf x = some .cell) (hcc : X.env.cells.lookup x = some cc) (hcl : closureFor sc X.env = pure [(x, cc)]) (hvis : Vis X.env.scope x) (hg : Gl X "max") (hm : X.mg "max" = none) (hv : bootBuiltins "max" = some (.builtin "max")) (ha : PA X [e] t)
    (hdf : defaultsOf ps X.env = ([], []) := by rfl) (hkp : keeperOf (.builtin "max") = pure Keeper.machine := by rfl) (he : starEach [e] X.env = (false, eval e X.env) :: starEach [] X.env := by rfl)
    (hpl : ((backTo pos (starEach [e] X.env)).any (·.1) || (backToKw pos (keywordEach [⟨some "key", .Lambda ps bd sc lp, kpos⟩] X.env)).any (·.1.isNone)) = false := by rfl) :
    PE X (.Call (.Name "max" p) [e] [⟨some "key", .Lambda ps bd sc lp, kpos⟩] pos) (tMaxLam X.K t i q lp.line lp.col b) := by
  intro pins s σ H Q I h
  refine wpAny_Call_Name_kw (ld_blt I hg hm hv ?_ (by decide) (by decide))
  refine PySem.W.callWith_of (P := fun _ => True) hpl (fun h _ => keeps_builtin hkp) (evalArgs_kw2 (by rfl) (thn (ha pos pins s σ H _ I h) fun us s1 ⟨xs, H1, I1, r1, a, pd, ns, vs, hxs, h1, h2, h3, h4, h5, h6, q1⟩ => ?_) he)
  have hkw : PK X [⟨some "key", .Lambda ps bd sc lp, kpos⟩] (tCons (tLam q lp.line lp.col b ps bd sc [(x, cc)]) tNil) := pk_cons (pe_lam L hcd hq hcl hdf) pk_nil
  refine thn (hkw pos pins s1 σ H1 (fun zs H2 => ∃ f c', zs = [.ref f] /\ OffT b H1 H2 /\ TbS q lp.line lp.col H2 b /\ H2 c' = some (codeO q c') /\ H2 f = some (lamO q ps bd sc [(x, cc)] c' f)) I1 ⟨h6, fun c' f H' ho ht hc' hf => ⟨f, c', rfl, ho, ht, hc', hf⟩⟩) fun ks s2 ⟨zs, H2, I2, r2, f, c', hz, ho, ht, hc', hf⟩ => ⟨trivial, ?_⟩
  subst hxs hz
  obtain ⟨u1, rfl, r3⟩ := vals1 r2
  cases r3
  obtain ⟨u2, rfl, r4⟩ := vals1 r1
  cases r4
  obtain ⟨ts, hb⟩ := h6.tbl
  exact max_lam hcalm (by have := hr.dp; omega) B I2 (ho.seq hb h1) h2 hN h3 hk hcc hvis (ho.seq hb h4) h5 hf hc' fun m hm => q1 m H2 hm ho ht
end
end L2
namespace L2
open PySem PySem.Spec PyProof.Rows
structure OnlyT (t : Addr) (H : Hp) : Prop where
  tb : H t = some (.tbl #[])
  no : ∀ b, b ≠ t -> H b = none \/ ∃ o xs, H b = some (.frz o (.lst xs))
theorem law_callT {P : Program} {w : World} {K : PySem.W.Frag} {mg mb : Str -> Option Value} {CX : CXT} {k : Nat} {fa a c t : Addr} {fd : FuncData} {x : Str} {sp : Sp} {s₁ : Shared} {vs : List Value} {ns : List Int}
    (KX : K.In s₁.heap) (hns : s₁.heap.Ns mainGlobals mg) (hb : s₁.heap.Ns builtinsNs mb) (hbb : ∀ x : Str, x ≠ "__name__" -> mb x = bootBuiltins x) (hlim : s₁.heap.NoLimit) (hg : s₁.gens = #[])
    (ha : s₁.heap.get? a = some { cls := .type "list", data := .seq vs.toArray }) (hi : IntsAre vs ns) (hl : ns.length <= sizeLine) (hr : Room k callerA)
    (ht : s₁.heap.get? t = some (PySem.W.tabObj #[])) (hc : PySem.W.codeHdIn K c t = true) (htK : K.lookup t = none) (hbm : BmOk mg s₁.heap)
    (F : ∀ base : Heap, K.In base -> base.Ns mainGlobals mg -> BmOk mg base -> FnOk P w K mg base CX k fa fd [x] sp) (hbind : ∀ (s : Shared) (u : Value), BindsTo s fd ⟨[u], []⟩ [(x, u)])
    (hsp : ∀ H : Hp, OnlyT t H -> SqL K H a (ns.map V.int) -> sp [.ref a] H (fun v _ => v = .bl true) fun _ _ _ => False)
    (hCX : ∀ H e s', CX [] H s₁ (fun _ _ _ => False) e s' -> False) :
    codeAny (model P w) callerA (.call (.ref fa) ⟨[.ref a], []⟩) (fun r s' => r = .ok (.ret (.bool true)) /\ OldK s₁.heap s'.heap /\ s'.os = s₁.os /\ AllBare s'.gens) s₁ := by
  have rv := vals_ints hi
  have lenV := hi.length
  have hat : a ≠ t := fun z => by rw [z, ht] at ha; cases ha
  have core : ∀ H : Hp, OnlyT t H -> SqL K H a (ns.map V.int) -> HOk P w H s₁.heap -> (∀ b, H b ≠ none -> b = a \/ b = t) -> (H a ≠ none -> K.lookup a = none) ->
      codeAny (model P w) callerA (.call (.ref fa) ⟨[.ref a], []⟩) (fun r s' => r = .ok (.ret (.bool true)) /\ OldK s₁.heap s'.heap /\ s'.os = s₁.os /\ AllBare s'.gens) s₁ := by
    intro H hO hS hok hA hK
    have base_of : ∀ {b : Addr} {o : Obj}, s₁.heap.get? b = some o -> H b = none -> (hidT s₁.heap H).get? b = some o := fun e n => hidT_get e n
    have noA : ∀ {b : Addr} {o : Obj} {es : Array DictEntry} {ep : Nat}, s₁.heap.get? b = some o -> o.data = .dict es ep -> H b = none := fun {b o es ep} e d => by
      cases q : H b with
      | none => rfl
      | some u =>
        rcases hA b (by rw [q]; simp) with rfl | rfl
        · rw [ha] at e; cases e
          have d' : Data.seq vs.toArray _ = Data.dict es ep := d
          cases d'
        · rw [ht] at e; cases e
          cases d
    have nsK : ∀ {b : Addr} {m : Str -> Option Value}, s₁.heap.Ns b m -> (hidT s₁.heap H).Ns b m := fun {b m} ⟨o, es, ep, e, d, r⟩ => ⟨o, es, ep, base_of e (noA e d), d, r⟩
    have hKb : K.In (hidT s₁.heap H) := fun b o e => base_of (KX b o e) (by
      cases q : H b with
      | none => rfl
      | some u =>
        rcases hA b (by rw [q]; simp) with rfl | rfl
        · rw [hK (by rw [q]; simp)] at e; cases e
        · rw [htK] at e; cases e)
    have hBm : BmOk mg (hidT s₁.heap H) := by
      obtain ⟨bm, ob, b1, b2, b3, b4, b5, b6⟩ := hbm
      refine ⟨bm, ob, b1, b2, base_of b3 ?_, b4, b5, b6⟩
      cases q : H bm with
      | none => rfl
      | some u =>
        rcases hA bm (by rw [q]; simp) with rfl | rfl
        · rw [ha] at b3; cases b3; cases b6
        · rw [ht] at b3; cases b3; cases b6
    have hM : Mod K mg (hidT s₁.heap H) := ⟨hKb, nsK hns, ⟨mb, nsK hb, hbb⟩, let ⟨mc, h1, h2⟩ := hlim; ⟨mc, nsK h1, h2⟩⟩
    have e0 : Env0 P w K mg (hidT s₁.heap H) callerA [] s₁ H := ⟨rfl, hM, fun b o e => of_hidT e, Nat.le_of_eq (hidT_size _ _), trivial, fun b hb => absurd (show b ∈ ([] : List Addr) from hb) (by simp), hok, .of_eq hg⟩
    refine codeAny_mono ((F _ hKb (nsK hns) hBm).run callerA [] s₁ H ⟨[.ref a], []⟩ [.ref a] [.ref a] _ _ hr e0 (hbind s₁ (.ref a)) (.cons rfl .nil) (hsp H hO hS)) fun r s' h => ?_
    cases r with
    | error e => exact (hCX H e s' h).elim
    | ok fl =>
      cases fl with
      | next => exact False.elim h
      | brk => exact False.elim h
      | cont => exact False.elim h
      | ret u =>
        obtain ⟨v, H', os, bare, un, hok', r', q⟩ := h
        have q' : v = .bl true := q
        subst q'
        obtain rfl : u = Value.bool true := r'
        have keep : ∀ b o, b ≠ t -> s₁.heap.get? b = some o -> s'.heap.get? b = some o := fun b o hb e => by
          cases q : H b with
          | none => exact un.keep b o e q (by intro z; exact absurd (show b ∈ ([] : List Addr) from z) (by simp)) (by simp)
          | some u =>
            rcases hO.no b hb with z | ⟨ob, xs, z⟩
            · rw [q] at z; cases z
            · have z2 := un.frzs b ob _ z
              obtain ⟨e1, _⟩ := hok b _ z
              obtain ⟨e2, _⟩ := hok' b _ z2
              rw [e] at e1; cases e1
              exact e2
        obtain ⟨more, hm⟩ := un.tbls t _ hO.tb
        have hm' : s'.heap.get? t = some (PySem.W.tabObj (#[] ++ more)) := hok' t _ hm
        have hcd := PySem.W.codeHd_of_K KX hc
        refine ⟨rfl, ⟨fun b o e => ?_, fun b o e => ?_⟩, os, bare⟩
        · by_cases hbt : b = t
          · subst hbt
            rw [ht] at e
            cases e
            exact .inr (.inl ⟨(hcd.tab ht).isCodeTable, rfl, _, more, rfl, hm'⟩)
          · exact .inl (keep b o hbt e)
        · by_cases hbt : b = t
          · subst hbt; exact ⟨_, hm'⟩
          · exact ⟨o, keep b o hbt e⟩
  cases hk : K.lookup a with
  | some o =>
    have e := KX a o hk
    rw [ha] at e
    cases e
    refine core (fun b => if b = t then some (.tbl #[]) else none) ⟨if_pos rfl, fun b n => .inl (if_neg n)⟩ (.inr ⟨_, vs.toArray, _, hk, rfl, rfl, rfl, by rw [List.size_toArray, lenV]; exact hl, by simpa using rv⟩) (fun b u z => ?_) (fun b z => ?_) fun z => absurd (if_neg hat) z
    · by_cases hbt : b = t
      · have z' := (if_pos hbt).symm.trans z
        cases z'
        subst hbt
        exact ht
      · have z' := (if_neg hbt).symm.trans z
        cases z'
    · by_cases hbt : b = t
      · exact .inr hbt
      · exact absurd (if_neg hbt) z
  | none =>
    refine core (fun b => if b = t then some (.tbl #[]) else if b = a then some (.frz { cls := .type "list", data := .seq vs.toArray } (.lst (ns.map V.int))) else none) ⟨if_pos rfl, fun b n => ?_⟩ (.inl (.inr ⟨{ cls := .type "list", data := .seq vs.toArray }, ?_⟩)) (fun b u z => ?_) (fun b z => ?_) fun _ => hk
    · by_cases hba : b = a
      · exact .inr ⟨_, _, by show (if b = t then _ else _) = _; rw [if_neg n, if_pos hba]⟩
      · exact .inl (by show (if b = t then _ else _) = _; rw [if_neg n, if_neg hba])
    · show (if a = t then _ else _) = _
      rw [if_neg hat, if_pos rfl]
    · by_cases hbt : b = t
      · have z' := (if_pos hbt).symm.trans z
        cases z'
        subst hbt
        exact ht
      · by_cases hba : b = a
        · have z' : some (HO.frz { cls := .type "list", data := .seq vs.toArray } (.lst (ns.map V.int))) = some u := by
            have : (if b = t then some (HO.tbl #[]) else if b = a then some (.frz { cls := .type "list", data := .seq vs.toArray } (.lst (ns.map V.int))) else none) = some u := z
            rw [if_neg hbt, if_pos hba] at this; exact this
          cases z'
          subst hba
          exact ⟨ha, by rw [List.length_map]; exact hl, vs, _, rv, ha⟩
        · have : (if b = t then some (HO.tbl #[]) else if b = a then some (.frz { cls := .type "list", data := .seq vs.toArray } (.lst (ns.map V.int))) else none) = some u := z
          rw [if_neg hbt, if_neg hba] at this
          cases this
    · by_cases hbt : b = t
      · exact .inr hbt
      · by_cases hba : b = a
        · exact .inl hba
        · exact absurd (by show (if b = t then some (HO.tbl #[]) else if b = a then _ else none) = none; rw [if_neg hbt, if_neg hba]) z
def spLawT (K : PySem.W.Frag) (Ts : Hp -> Prop) : Sp := fun vs H Q _ => ∃ (a : Addr) (ns : List Int), vs = [.ref a] /\ SqL K H a (ns.map V.int) /\ ns.length <= 63 /\ Ts H /\ ∀ H', Q (.bl true) H'
theorem walkLawT {l : PySem.W.OpenLaw} {q : Program} {loose : List Str} {XP : (Str -> Option Value) -> Heap -> Prop} {YP : World -> Heap -> Prop} {d : DefRec} {K : Params -> PySem.W.Frag} {k : Nat} {x : Str} {t : Addr} (hn : l.most = some 63) (hdf : d.params.defaults = []) (hk : Room k callerA)
    (hY : ∀ (w : World) (h : Heap), YP w h -> (K w.params).In h) (hT : ∀ (w : World) (h : Heap), YP w h -> h.get? t = some (PySem.W.tabObj #[]))
    (F : ∀ (w : World) (mg : Str -> Option Value) (fa : Addr) (h : Heap), (K w.params).In h -> h.Ns mainGlobals mg -> mg d.name = some (.ref fa) ->
      (∃ c, PySem.W.codeHdIn (K w.params) c t = true /\ (K w.params).lookup t = none) /\
      ∃ (fd : FuncData) (Ts : Hp -> Prop), (∀ H : Hp, H t = some (.tbl #[]) -> Ts H) /\ (∀ (s : Shared) (u : Value), BindsTo s fd ⟨[u], []⟩ [(x, u)]) /\ ∀ base : Heap, (K w.params).In base -> base.Ns mainGlobals mg -> BmOk mg base -> FnOk l.prog w (K w.params) mg base CX0 k fa fd [x] (spLawT (K w.params) Ts)) :
    PySem.W.WalkO q loose XP YP l.row.toRowW d [] (fun f vs => PySem.call f vs) := by
  refine Att.attach_call hn hdf fun w s₀ s₁ mg mb fa o pm cd doc a vs ns G Y ho hd hcd hmg hobj hints hlen hg => ?_
  have KX := hY w _ Y
  obtain ⟨⟨c, hc, htK⟩, fd, Ts, hTs, hb, hF⟩ := F w mg fa _ KX G.T.g hmg
  exact law_callT KX G.T.g G.T.b G.T.builtins G.T.nolimit hg hobj hints (Nat.le_trans hlen (by decide)) hk (hT w _ Y) hc htK G.T.bmain hF hb (fun H hO hS => ⟨a, ns, rfl, hS, hlen, hTs H hO.tb, fun _ => rfl⟩) fun _ _ _ z => z
theorem DefAt.lawT {P : Program} {w : World} {K : PySem.W.Frag} {mg : Str -> Option Value} {h : Heap} {x : Str} {st : Stmt} {k : Nat} {sp : Sp} {fa : Addr} {y : Str} (D : DefAt K x st) (X : K.In h) (G : h.Ns mainGlobals mg) (hfa : mg x = some (.ref fa)) (hb : BindAt x st [y]) (mk : ∀ f fd (base : Heap), Fun K x x st f fd -> K.In base -> base.Ns mainGlobals mg -> BmOk mg base -> FnOk P w K mg base CX0 k f fd [y] sp) :
    ∃ fd : FuncData, (∀ (s : Shared) (u : Value), BindsTo s fd ⟨[u], []⟩ [(y, u)]) /\ ∀ base : Heap, K.In base -> base.Ns mainGlobals mg -> BmOk mg base -> FnOk P w K mg base CX0 k fa fd [y] sp := by
  obtain ⟨f, oc, od, osl, kV, doc, pm, an, cdv, ct, a, l, c, kk⟩ := D.ex
  have F := fun_mk (st := st) l c kk
  have e := hfa.symm.trans (PySem.W.mg_of X G a)
  cases e
  exact ⟨_, fun s u => .of_eq (hb kV doc pm an cdv ct [u] rfl), fun base kb nb bm => mk fa _ base F kb nb bm⟩
theorem lawT_of {B : FuncData -> Prop} {G : FuncData -> (Hp -> Prop) -> Prop} {t : Addr} (Ts : Hp -> Prop) (h : ∀ H : Hp, H t = some (.tbl #[]) -> Ts H) (z : ∃ fd, B fd /\ G fd Ts) : ∃ (fd : FuncData) (Ts : Hp -> Prop), (∀ H : Hp, H t = some (.tbl #[]) -> Ts H) /\ B fd /\ G fd Ts :=
  let ⟨fd, x, y⟩ := z
  ⟨fd, Ts, h, x, y⟩
end L2
namespace L2
open PySem PySem.Spec PyProof.Rows
section
variable {X : Cx} {K : PySem.W.Frag}
def rRepA : R2 := fun x y H Q => ∃ (a : Addr) (n : Nat) (xs : List V), x = .ref a /\ y = .int n /\ H a = some (.tup xs) /\ xs ≠ [] /\ 1 <= n /\ n <= 1000 /\ xs.length <= 1000 /\ ∀ r H', Same H H' -> (r = a \/ H r = none) -> H' r = some (.tup (List.replicate n xs).flatten) -> Q (.ref r) H'
theorem op_repA : OpR X (binaryOp .Mult) rRepA := by
  intro pins s σ H x y v u Q I rx ry h
  obtain ⟨a, n, xs, rfl, rfl, ha, hne, h1, h2, h3, q⟩ := h
  refine op_repT pins s σ H _ _ v u Q I rx ry ⟨a, n, xs, rfl, rfl, SqT.of ha, hne, by omega, by omega, h3, fun e => ?_, fun _ p hp => ?_⟩
  · have : n = 1 := by omega
    subst this
    exact q a H (Same.refl _) (.inl rfl) (by rw [ha]; simp)
  · rw [Int.toNat_natCast]
    exact q p _ (Same.new hp _) (.inr hp) upd_same
end
end L2
namespace L2
open PySem PySem.Spec PyProof.Rows
structure MethAtL (K : PySem.W.Frag) (C : Addr) (m qual : Str) (st : Stmt) (c b : Addr) : Prop where
  ex : ∃ f fd, Meth K C m f /\ Fun K m qual st f fd /\ fd.code = .ref c
  hd : PySem.W.codeHdIn K c b = true
section
variable {P : Program} {w : World} {K : PySem.W.Frag} {mg : Str -> Option Value} {base : Heap} {C c b : Addr} {m qual : Str} {st : Stmt} {ps : List Str} {k : Nat} {sp : Sp}
theorem MethAtL.use (h : MethAtL K C m qual st c b) (cl : Cls K C) (hb : BindQ m qual st ps) (ok : ∀ f fd, Fun K m qual st f fd -> fd.code = .ref c -> FnOk P w K mg base (CXE P w) k f fd ps (SpOf C sp)) : Cls K C /\ ∃ f fd, Meth K C m f /\ FnOk P w K mg base (CXE P w) k f fd ps (SpOf C sp) /\ Binds K fd ps [] := by
  obtain ⟨f, fd, M, F, e⟩ := h.ex
  exact ⟨cl, f, fd, M, ok f fd F e, F.binds hb⟩
theorem Fun.okXC {x : Str} {f : Addr} {fd : FuncData} {N : List Str} {cV : Value} (F : Fun K x qual st f fd) (hfd : fd.code = cV) (S : FnScope N ps (defScope st)) (len : ∀ vs H Q E, sp vs H Q E -> vs.length = ps.length)
    (hbody : ∀ (cdv : Value), cdv = cV -> ∀ (A : Around) (outer : List Env) (s : Shared) (H : Hp) (vs : List V) (Q : VK) (E : XK), Room k (A.deeper (envOfC qual (defScope st) s.heap.objs.size f cdv)) -> sp vs H Q E ->
      ∃ t, PSs (cxOf (CXE P w) P w K mg base N qual (defScope st) f cdv A outer s H E) (defBody st) t /\ t { nx := fun _ H' => Q .non H', rt := Q } (start N vs) H) : FnOk P w K mg base (CXE P w) (k + 1) f fd ps sp := by
  obtain ⟨oc, od, kV, doc, pm, an, cdv, ct, osl, rfl, lk, hcd⟩ := F.ex
  exact fn_of lk hcd S len fun A outer s H vs Q E hr hsp => hbody cdv hfd A outer s H vs Q E hr hsp
end
section
variable {X : Cx}
theorem mt_count : MtM X "list.count" (fun x vs H Q => ∃ (l : Addr) (ns : List Int) (n : Int), x = .ref l /\ vs = [.int n] /\ H l = some (.lst (ns.map V.int)) /\ Q (.int (ns.count n : Nat)) H) := by
  intro pins s σ H x vs v us Q I rx rv h
  obtain ⟨l, ns, n, rfl, rfl, hH, q⟩ := h
  cases rx
  obtain ⟨u, rfl, t, rfl⟩ := rv.one
  obtain ⟨its, n0, r, e, hz⟩ := I.lst hH
  exact count_list_ints (vs := its) ⟨_, e, rfl, n0, rfl⟩ (intsAre_of r) ⟨.int _, H, I.tok _, ⟨_, rfl⟩, q⟩
theorem mt_index : MtM X "list.index" (fun x vs H Q => ∃ (l : Addr) (ns : List Int) (n : Int), x = .ref l /\ vs = [.int n] /\ H l = some (.lst (ns.map V.int)) /\ n ∈ ns /\ ns.length <= 1000 /\ Q (.int (ns.idxOf n : Nat)) H) := by
  intro pins s σ H x vs v us Q I rx rv h
  obtain ⟨l, ns, k, rfl, rfl, hH, hk, hl, q⟩ := h
  cases rx
  obtain ⟨u, rfl, t, rfl⟩ := rv.one
  obtain ⟨its, n0, r, e, hz⟩ := I.lst hH
  have hi := intsAre_of r
  have hlen := hi.length
  have hj : ns.idxOf k < ns.length := List.idxOf_lt_length_iff.mpr hk
  refine call_meets PySem.F.slot_list_index ⟨_, e, rfl⟩ PySem.F.entry_list_index (PySem.F.args_list_index_2 _ _)
    (SeqAt.list_indexAt l its.toArray n0 none #[] (.int k t) (isInt k) (ns.idxOf k) (by simpa [hlen] using hj) (by omega) ?_ ?_) ⟨e, fun y hy => (eq_isInt k t hi y (by simpa using hy)).at _ _, ⟨.int _, H, I.tok _, ⟨_, rfl⟩, q⟩⟩
  · show isInt k its[ns.idxOf k] = true
    rw [isInt_at k hi _ (by omega) hj]
    simpa using List.getElem_idxOf hj
  · intro j hjs hlt
    show isInt k its[j] = false
    rw [isInt_at k hi j (by simpa using hjs) (by omega)]
    exact ne_of_lt_idxOf hlt _
end
end L2
namespace Mw
open PySem L2
variable [LamPos]
structure LamM (K : PySem.W.Frag) (mg : Str -> Option Value) (base : Heap) (cls : Nat -> Addr) (tc : Addr) : Prop where
  k : LamK K mg base tc (cls 5)
def spProdsS (K : PySem.W.Frag) (cls : Nat -> Addr) (ks : List Nat) : Sp := fun vs H Q _ => ∃ (a p : Addr) (h : Snd) (xs : List Int), vs = [.ref a, .ref p] /\ GAt cls ks H a (.s h) /\ h.Ok /\ h.err <= errTop + 1 /\ SqT K H p (xs.map V.int) /\ h.PtOk xs /\
  ∀ r H', Same H H' -> H r = none -> H' r = some (.lst ((h.prods xs).map V.int)) -> Q (.ref r) H'
theorem rangeI_getD (ps : List Int) : (List.range ps.length).map (fun j => ps.getD j 0) = ps := by
  refine List.ext_getElem (by rw [List.length_map, List.length_range]) fun j h1 h2 => ?_
  rw [List.getElem_map, List.getElem_range, List.getD_eq_getElem?_getD, List.getElem?_eq_getElem h2]; rfl
theorem best_count (ps : List Int) : ps.count (topI ps) = (bestS ps).length := by
  have h : (((List.range ps.length).map (fun j => ps.getD j 0)).filter fun x => decide (x = topI ps)).length = (bestS ps).length := by
    rw [List.filter_map, List.length_map]; rfl
  rw [rangeI_getD] at h
  rw [<- h, List.count, List.countP_eq_length_filter]
  congr 1
theorem filter_head {α : Type} {p : α -> Bool} : ∀ {l : List α} {i : Nat} {x : α}, l[i]? = some x -> p x = true -> (∀ (j : Nat) y, j < i -> l[j]? = some y -> p y = false) -> ∃ r, l.filter p = x :: r
  | [], _, _, e, _, _ => by simp at e
  | y :: l, 0, x, e, h, _ => by
    have : y = x := by simpa using e
    subst this
    exact ⟨l.filter p, by rw [List.filter_cons, if_pos h]⟩
  | y :: l, i + 1, x, e, h, k => by
    have hy := k 0 y (by omega) rfl
    obtain ⟨r, hr⟩ := filter_head (l := l) (i := i) (x := x) (by simpa using e) h fun j z hj hz => k (j + 1) z (by omega) (by simpa using hz)
    exact ⟨r, by rw [List.filter_cons, if_neg (by rw [hy]; simp), hr]⟩
theorem best_index {ps : List Int} (h : ps ≠ []) : ps.idxOf (topI ps) = (bestS ps).headD 0 := by
  have hm := topI_mem h
  have hj : ps.idxOf (topI ps) < ps.length := List.idxOf_lt_length_iff.mpr hm
  obtain ⟨r, hr⟩ := filter_head (l := List.range ps.length) (p := fun j => decide (ps.getD j 0 = topI ps)) (i := ps.idxOf (topI ps)) (x := ps.idxOf (topI ps)) (by rw [List.getElem?_range hj]) (by
    rw [List.getD_eq_getElem?_getD, List.getElem?_eq_getElem hj]
    simpa using List.getElem_idxOf hj) fun j y hlt hy => by
    rw [List.getElem?_range (by omega)] at hy
    obtain rfl := Option.some.inj hy
    have := PyProof.Rows.ne_of_lt_idxOf hlt (by omega)
    rw [List.getD_eq_getElem?_getD, List.getElem?_eq_getElem (by omega)]
    simpa using this
  unfold bestS
  rw [hr]; rfl
def othI (n : Nat) (s : Int) : List Int := (othersS n s).map fun j => ((j : Nat) : Int)
theorem othI_snoc (j : Nat) (s : Int) : othI (j + 1) s = othI j s ++ if (j : Int) = s then [] else [(j : Int)] := by
  unfold othI othersS
  rw [List.range_succ, List.filter_append, List.map_append]
  congr 1
  by_cases h : (j : Int) = s
  · rw [if_pos h]; simp [h]
  · rw [if_neg h]; simp [h]
theorem othI_len (j : Nat) (s : Int) : (othI j s).length <= j := by
  unfold othI othersS
  rw [List.length_map]
  exact Nat.le_trans (List.length_filter_le _ _) (by rw [List.length_range]; exact Nat.le_refl _)
theorem othI_mem {n : Nat} {s o : Int} (h : o ∈ othI n s) : 0 <= o /\ o < (n : Int) /\ o ≠ s := by
  obtain ⟨j, hj, rfl⟩ := List.mem_map.mp h
  have h1 := others_lt hj
  have h2 : (j : Int) ≠ s := of_decide_eq_true (List.mem_filter.mp hj).2
  exact ⟨by omega, by omega, h2⟩
theorem rival_best {ps : List Int} {s m : Int} (h : BestBy ps (othI ps.length s) m) : m = (rivalS ps s : Int) := by
  obtain ⟨i, hi, hb⟩ := h
  have go : ∀ (j : Nat) (k : Int), (othI ps.length s)[j]? = some k ↔ ∃ o, (othersS ps.length s)[j]? = some o /\ k = (o : Int) := fun j k => by
    unfold othI
    rw [List.getElem?_map]
    cases (othersS ps.length s)[j]? with
    | none => simp
    | some o => simp [eq_comm]
  obtain ⟨o, ho, rfl⟩ := (go i m).mp hi
  have top : ps.getD o 0 = topI ((othersS ps.length s).map fun j => ps.getD j 0) := topI_eq (List.mem_map.mpr ⟨o, List.mem_of_getElem? ho, rfl⟩) fun b hb2 => by
    obtain ⟨o2, ho2, rfl⟩ := List.mem_map.mp hb2
    obtain ⟨j, hj⟩ := List.getElem?_of_mem ho2
    have := (hb j o2 ((go j o2).mpr ⟨o2, hj, rfl⟩)).1
    simpa using this
  obtain ⟨r, hr⟩ := filter_head (l := othersS ps.length s) (p := fun j => decide (ps.getD j 0 = topI ((othersS ps.length s).map fun j => ps.getD j 0))) (i := i) (x := o) ho (by simpa using top) fun j y hlt hy => by
    have := (hb j y ((go j y).mpr ⟨y, hy, rfl⟩)).2 hlt
    rw [<- top]
    have h2 : ps.getD y 0 < ps.getD o 0 := by simpa using this
    exact decide_eq_false (by omega)
  unfold rivalS
  rw [hr]; rfl
theorem guess_eq {ps : List Int} (h : ps ≠ []) : guessS ps = if 1 < ps.count (topI ps) then .non else .int ((ps.idxOf (topI ps) : Nat) : Int) := by
  unfold guessS
  rw [best_count, best_index h]
end Mw
namespace Mw
open PySem L2
variable [LamPos]
structure KpL (S : List Addr) (c : Addr) (H H' : Hp) : Prop where
  old : ∀ b o, b ≠ c -> H b = some o -> NotIns o -> H' b = some o
  but : ∀ b o, b ∉ S -> b ≠ c -> H b = some o -> NotTb o -> H' b = some o
  has : ∀ b, H b ≠ none -> H' b ≠ none
  ts : ∀ b, TbL H b -> TbL H' b
section
variable {K : PySem.W.Frag} {S : List Addr} {H H' H'' : Hp} {a c : Addr} {xs ys : List V}
theorem KpL.of (h : Kp S H H') : KpL S c H H' := ⟨fun b o _ e n => h.old b o e n, fun b o n _ e t => h.but' b o n e t, h.has, h.ts⟩
theorem KpL.refl : KpL S c H H := KpL.of Kp.refl
theorem KpL.trans (h1 : KpL S c H H') (h2 : KpL S c H' H'') : KpL S c H H'' := ⟨fun b o m h n => h2.old b o m (h1.old b o m h n) n, fun b o n m h t => h2.but b o n m (h1.but b o n m h t) t, fun b h => h2.has b (h1.has b h), fun b h => h2.ts b (h1.ts b h)⟩
theorem KpL.upd {o : HO} {zs : List V} (h : KpL S c H H') (e : H' c = some (.lst zs)) : KpL S c H (upd H' c o) := by
  refine ⟨fun b u m hb n => ?_, fun b u n m hb tb => ?_, fun b hb => ?_, fun b hb => ?_⟩
  · rw [upd_ne m]; exact h.old b u m hb n
  · rw [upd_ne m]; exact h.but b u n m hb tb
  · by_cases z : b = c
    · rw [z, upd_same]; simp
    · rw [upd_ne z]; exact h.has b hb
  · exact (h.ts b hb).map (fun d ps z => by rw [upd_ne (fun y => by rw [y, e] at z; cases z)]; exact z) fun d φ z => by rw [upd_ne (fun y => by rw [y, e] at z; cases z)]; exact z
theorem KpL.kp (h : KpL S c H' H'') (s : Same H H') (n : H c = none) : Kp S H H'' :=
  ⟨fun b o e m => h.old b o (ne_of_none e n) (s _ _ e) m, fun b o m e t => h.but b o m (ne_of_none e n) (s _ _ e) t, fun b e => h.has b (by
    cases q : H b with
    | none => exact absurd q e
    | some o => rw [s _ _ q]; simp), fun b e => h.ts b (e.map (fun _ _ z => s _ _ z) fun _ _ z => s _ _ z)⟩
theorem KpL.seqT (h : KpL S c H H') (hc : H c = some (.lst ys)) (e : SqT K H a xs) : SqT K H' a xs := by
  rcases e with (e | ⟨o, e⟩) | e
  · exact .inl (.inl (h.old _ _ (fun z => by rw [z, hc] at e; cases e) e True.intro))
  · exact .inl (.inr ⟨o, h.old _ _ (fun z => by rw [z, hc] at e; cases e) e True.intro⟩)
  · exact .inr e
theorem KpL.seq (h : KpL S c H H') (hc : a ≠ c) (e : SqL K H a xs) : SqL K H' a xs := by
  rcases e with (e | ⟨o, e⟩) | e
  · exact .inl (.inl (h.old _ _ hc e True.intro))
  · exact .inl (.inr ⟨o, h.old _ _ hc e True.intro⟩)
  · exact .inr e
theorem KpL.rows {as : List Addr} {rs : List (List Int × Int)} (h : KpL S c H H') (hc : H c = some (.lst ys)) (e : RowsAt K H as rs) : RowsAt K H' as rs := Paired.mapP e fun _ _ ⟨p, q1, q2⟩ => ⟨p, h.seqT hc q1, h.seqT hc q2⟩
end
abbrev numsV (bk : List Nat) : List V := bk.map fun n : Nat => V.int (n : Int)
end Mw
namespace L2
open PySem PySem.Spec
structure ExcP (K : PySem.W.Frag) (C : Addr) (f : Str) : Prop where
  ga : PySem.W.findIn K (.ref C) "__getattribute__" = some (some (.builtin "BaseException.__getattribute__"))
  gg : PySem.W.findIn K (.ref C) "__getattr__" = some none
  no : PySem.W.findIn K (.ref C) f = some none
  be : PySem.W.mroIn K C (.type "BaseException") = some true
  hd : (PySem.W.clsIn K C).map (·.hasDict) = some true
section
variable {prog : Program} {w : World} {A : Around} {E : Value -> Shared -> Prop} {s : Shared} {K : PySem.W.Frag} {x C d : Addr} {o : Obj} {f : Str} {v : Value} {vs : Array Value} {mA : Str -> Option Value}
open PySem.W Builtin.ObjectAttr in
theorem xa_find {M : Model} {h : Heap} (X : K.In h) (q : ExcP K C f) (hx : h.get? x = some o) (hc : o.cls = .ref C) (hv : o.data = .fields vs) (hd : o.dict = some d) (hn : h.Ns1 d mA) (e : mA f = some v) :
    Looks M h (find (.ref x) (.ref C) f) (.value v) := by
  obtain ⟨cd, hcd, hdd⟩ := Option.map_eq_some_iff.mp q.hd
  have L1 := looks_findIn (M := M) X q.no
  have L2 := looks_clsIn (M := M) X hcd
  have L3 : Looks M h (instanceDict x false) (some d) := by
    intro A' Q' E' s' k z
    unfold instanceDict
    refine wpAny_bind (wpAny_loadPart (k _ _ hx) ?_)
    rw [hc]
    dsimp only
    refine wpAny_bind (L2 A' _ E' s' k ?_)
    rw [hdd, hd]
    exact wpAny_pure z
  have L4 : Looks M h (Builtin.ObjectAttr.ownDict x) (some d) := by
    intro A' Q' E' s' k z
    unfold Builtin.ObjectAttr.ownDict loadHead
    refine wpAny_bind (wpAny_loadPart (k _ _ hx) ?_)
    rw [hv]
    exact L3 A' Q' E' s' k z
  have L5 : Looks M h (inOwnDict f (.ref x)) (some v) := L4.andThen fun A' Q' E' s' k z => wpAny_nsGet (hn.at fun o' e' => k _ _ e').ns (by rw [e]; exact z)
  exact L1.andThen (Looks.now.andThen (Looks.now.andThen (L5.andThen (Looks.tag .now))))
open PySem.W in
theorem xa_body {tk : Tok} {Q : Fin -> Shared -> Prop} (X : K.In s.heap) (q : ExcP K C f) (hx : s.heap.get? x = some o) (hc : o.cls = .ref C) (hv : o.data = .fields vs) (hd : o.dict = some d) (hn : s.heap.Ns1 d mA) (e : mA f = some v) (h : Q (.done (.ret v)) s) :
    wpAny (model prog w) A (Builtin.«object.__getattribute__» ⟨[.ref x, .str f tk], []⟩) Q E s := by
  obtain ⟨hp, g, dr, t, os⟩ := s
  have F1 := xa_find (M := model prog w) X q hx hc hv hd hn e
  have L : Looks (model prog w) hp (typeOf (.ref x)) (.ref C) := hc ▸ (Looks.ld hx).andThen .now
  unfold Builtin.«object.__getattribute__»
  refine wpAny_bind (wpAny_of_eq (a := (Value.ref x, [Value.str f tk])) (by rfl) ?_)
  refine wpAny_bind (wpAny_of_eq (a := f) (by rfl) ?_)
  exact wpAny_bind (L.at (wpAny_bind (F1.at (wpAny_pure h))))
open PySem.W in
theorem xa_get {Q : Value -> Shared -> Prop} (X : K.In s.heap) (q : ExcP K C f) (hx : s.heap.get? x = some o) (hc : o.cls = .ref C) (hv : o.data = .fields vs) (hd : o.dict = some d) (hn : s.heap.Ns1 d mA) (e : mA f = some v) (ho : handedOut v = pure v)
    (h : Q v { s with toks := s.toks + 1 }) : wpAny (model prog w) A (getAttr (.ref x) f true) Q E s := by
  obtain ⟨hp, g, dr, t, os⟩ := s
  have L : Looks (model prog w) hp (typeOf (.ref x)) (.ref C) := hc ▸ (Looks.ld hx).andThen .now
  have L1 := looks_findIn (M := model prog w) X q.ga
  have L2 := looks_findIn (M := model prog w) X q.gg
  have L3 := looks_mroIn (M := model prog w) X q.be
  unfold getAttr getAttrBy
  refine wpAny_bind (wpAny_mkText (wpAny_holding (wpAny_bind (L.at (wpAny_bind (L1.at ?_))))))
  have e0 : (onTheHeap (Value.ref C) && Value.builtin "BaseException.__getattribute__" == Value.builtin "object.__getattribute__") = false := by
    have : (Value.builtin "BaseException.__getattribute__" == Value.builtin "object.__getattribute__") = false := by decide +kernel
    rw [this]; rfl
  dsimp only
  rw [e0, if_neg Bool.false_ne_true]
  unfold getAttrByItsOwn hookBefore
  refine wpAny_bind ?_
  show wpAny _ _ (typeLookup (.ref C) "__getattr__") _ _ _
  refine L2.at ?_
  refine wpAny_bind (wpAny_attempt (wpAny_holding ?_))
  show wpAny _ _ (boundAndCalled (.builtin "BaseException.__getattribute__") (.ref x) (.str f t)) _ _ _
  unfold boundAndCalled
  refine wpAny_bind (wpAny_of_eq (F.attr_ValueError.ga.bind (.ref x)) ?_)
  show wpAny _ _ (call (.builtin "BaseException.__getattribute__") [.ref x, .str f t]) _ _ _
  refine wpAny_call (codeAny_call_builtin F.attr_ValueError.ga.plain F.entry_bexc_ga ?_)
  have chk : ∀ {M : Model} {A' : Around} {E' : Value -> Shared -> Prop} {Q' : Unit -> Shared -> Prop} {tk : Nat}, Looks M hp (isSubtype (.ref C) (.type "BaseException")) true -> Looks M hp (typeOf (.ref x)) (.ref C) -> Q' () ⟨hp, g, dr, tk, os⟩ ->
      wpAny M A' (checkBuiltinCall "BaseException.__getattribute__" ⟨[.ref x, .str f t], []⟩) Q' E' ⟨hp, g, dr, tk, os⟩ := fun {M A' E' Q' tk} LB LT hq => by
    have hk : builtinKind "BaseException.__getattribute__" = some .slot := by decide +kernel
    have hsplit : splitId "BaseException.__getattribute__" = some ("BaseException", "__getattribute__") := by decide +kernel
    have ha := F.args_bexc_ga (.ref x) (.str f t)
    simp only [checkBuiltinCall, hk, hsplit]
    refine wpAny_bind ((LT.andThen LB : Looks M hp (isInstance (.ref x) (.type "BaseException")) true).at ?_)
    repeat (any_goals (first | assumption | wp_step))
  refine chk L3 L ?_
  refine xa_body (s := ⟨hp, g, dr, t + 1, os⟩) X q hx hc hv hd hn e ?_
  show wpAny _ _ (handedOut v) _ _ _
  rw [ho]
  exact wpAny_pure h
end
end L2
namespace L2
open PySem PySem.Spec
abbrev veTail : List Value := [.type "ValueError", .type "Exception", .type "BaseException", .type "object"]
structure ExcS (K : PySem.W.Frag) (C : Addr) (f : Str) : Prop where
  sa : PySem.W.findIn K (.ref C) "__setattr__" = some (some (.builtin "object.__setattr__"))
  no : PySem.W.findIn K (.ref C) f = some none
  ob : PySem.W.mroIn K C (.type "object") = some true
  mro : (PySem.W.clsIn K C).map (fun cd => cd.hasDict && (cd.mro.dropWhile fun v => match v with | .ref _ => true | _ => false) == veTail) = some true
theorem refuse_refs (self : Value) (what : Str) : ∀ l : List Value, refuseLoop self what (l.dropWhile fun v => match v with | .ref _ => true | _ => false) = pure () -> refuseLoop self what l = pure ()
  | [], h => h
  | v :: l, h => by
    cases v with
    | ref a => rw [refuseLoop_ref]; exact refuse_refs self what l h
    | _ => exact h
section
variable {prog : Program} {w : World} {A : Around} {E : Value -> Shared -> Prop} {s : Shared} {K : PySem.W.Frag} {x C : Addr} {o : Obj} {f : Str} {v : Value} {vs : Array Value}
open PySem.W Builtin.ObjectAttr in
theorem xs_set {Q : Unit -> Shared -> Prop} (X : K.In s.heap) (q : ExcS K C f) (hx : s.heap.get? x = some o) (hc : o.cls = .ref C) (hv : o.data = .fields vs) (hd : o.dict = none)
    (h : ∀ h' d t, s.heap.get? d = none -> h'.get? x = some { o with dict := some d } -> h'.Ns1 d (fun y => if y = f then some v else none) -> (∀ b ob, b ≠ x -> s.heap.get? b = some ob -> h'.get? b = some ob) -> Q () { s with heap := h', toks := t }) :
    wpAny (model prog w) A (setAttr (.ref x) f v) Q E s := by
  have nc : notCls o = true := by unfold notCls; rw [hv]
  have I : InstAt s.heap x o C none := ⟨hx, hc, nc, by rw [hd]; trivial⟩
  obtain ⟨cd, hcd, hb⟩ := Option.map_eq_some_iff.mp q.mro
  rw [Bool.and_eq_true] at hb
  obtain ⟨hdd, hmr⟩ := hb
  have hmr := beq_iff_eq.mp hmr
  have SF := PySem.F.store_ValueError
  refine set_plain X I q.sa ?_
  have SO := PySem.F.store_object
  have L0 : Looks (model prog w) s.heap (isInstance (.ref x) (.type "object")) true := I.type.andThen (looks_mroIn X q.ob)
  refine codeAny_call_builtin SO.slot.plain SO.entry (@check_slot (model prog w) _ _ { s with toks := s.toks + 1 } "object.__setattr__" "object" "__setattr__" (.ref x) [.str f s.toks, v] [] _ SO.kind SO.split L0 (SO.args (.ref x) (.str f s.toks) v) ?_)
  have Lt := I.type (M := model prog w)
  have Lm : Looks (model prog w) s.heap (mroOf (.ref C)) cd.mro := (looks_clsIn X hcd).andThen .now
  have Ln := looks_findIn (M := model prog w) X q.no
  rw [osa_eq, refuse_eq]
  have Lr : Looks (model prog w) s.heap (typeOf (.ref x) >>= fun tp => mroOf tp >>= fun l => refuseLoop (.ref x) "__setattr__" l) () := Lt.andThen (Lm.andThen (Looks.of_pure (refuse_refs _ _ _ (by rw [hmr]; exact SF.passes _))))
  refine wpAny_bind (Lr _ _ _ _ (fun _ _ e => e) (wpAny_bind (Lt _ _ _ _ (fun _ _ e => e) (wpAny_bind (Ln _ _ _ _ (fun _ _ e => e) (wpAny_bind (wpAny_pure ?_)))))))
  show wpAny _ _ (storeInOwnDict (.ref x) (.ref C) (.str f s.toks) f v false) _ _ _
  have hxs : x ≠ s.heap.objs.size := Nat.ne_of_lt (Heap.lt_size hx)
  have hx1 : (s.heap.push { cls := .type "dict", data := .dict #[] }).get? x = some o := Heap.get?_push_of_some _ hx
  unfold storeInOwnDict ownDictForStores instanceDict
  refine wpAny_bind (wpAny_pure (wpAny_bind (wpAny_bind (wpAny_loadPart hx ?_))))
  rw [hc]
  refine wpAny_bind ((looks_clsIn X hcd) _ _ _ _ (fun _ _ e => e) ?_)
  rw [hdd, hd, hv]
  refine wpAny_bind (wpAny_alloc' (wpAny_bind (wpAny_update' hx1 (wpAny_pure ?_))))
  have hg : ((s.heap.push { cls := .type "dict", data := .dict #[] }).update x fun o => { o with dict := some s.heap.objs.size }).get? s.heap.objs.size = some { cls := .type "dict", data := .dict #[] } := (Heap.get?_update_ne _ _ _ _ hxs.symm).trans (Heap.get?_push_at rfl rfl)
  have hn0 : ((s.heap.push { cls := .type "dict", data := .dict #[] }).update x fun o => { o with dict := some s.heap.objs.size }).Ns s.heap.objs.size (fun _ => none) := ⟨_, #[], _, hg, rfl, fun e he => absurd he (by simp), fun _ => rfl⟩
  show wpAny _ _ (storeInDict s.heap.objs.size (.str f s.toks) f v) _ _ _
  refine wpAny_bind (wpAny_pure (wpAny_bind (wpAny_nsSet1 (Heap.Ns1.of_empty hn0) fun h' hn' hs => ?_)))
  obtain ⟨oD, esD, epD, hoD, hdD, hcD⟩ := hn'.count (Within.cons f v Within.nil)
  refine wpAny_bind (wpAny_lookBehind hoD (by rw [hdD]; exact pastItsLine_dict (Nat.le_trans hcD (by rw [List.length_cons, List.length_nil, sizeLine_eq]; omega))) ?_)
  refine wpAny_pure ?_
  refine h h' s.heap.objs.size _ (Heap.get?_none_of_le (Nat.le_refl _)) ?_ hn' fun b ob hb e => ?_
  · refine (hs.2 x hxs).trans (Heap.get?_update_self _ hx1 ?_)
    have al := get_alive hx
    obtain ⟨oc, od, odt, osl⟩ := o
    cases odt <;> first | rfl | exact al
  · exact (hs.2 b (Nat.ne_of_lt (Heap.lt_size e))).trans ((Heap.get?_update_ne _ _ _ _ hb).trans (Heap.get?_push_of_some _ e))
end
end L2
namespace L2
open PySem PySem.Spec
abbrev xO (C t : Addr) (dx : Option Addr) : Obj := { cls := .ref C, dict := dx, data := .fields #[.ref t, .none, .none, .none, .bool false, .none] }
abbrev xT (us : List Value) : Obj := { cls := .type "tuple", data := .seq us.toArray }
def exiIn (K : PySem.W.Frag) (C : Addr) : Bool := match K.lookup C with | some ⟨.type "type", _, .cls cd, sl⟩ => (match cd.mro, sl.toList with | .ref C' :: bm, [_, _, _, _, some (.builtin n), _] => C' == C && n == "ValueError.__new__" && !cd.hasDel && PySem.W.tailIn K veTail bm | _, _ => false) | _ => false
theorem exi_obj {K : PySem.W.Frag} {C : Addr} {h : Heap} (q : exiIn K C = true) (X : K.In h) : ∃ (bm : List Value) (N : Addr) (nm qn : Str) (bs : List Value) (hd : Bool) (sn : List Str) (sub : List Value) (ab : Bool) (col : Option Bool) (dd : Option Addr) (k0 k1 k2 k3 k5 : Option Value),
    h.get? C = some (excClassObj nm qn C N bs bm hd sn sub ab col dd k0 k1 k2 k3 k5 "ValueError.__new__") /\ OwnTail h veTail bm := by
  unfold exiIn at q
  split at q
  case h_1 dd cd sl ho =>
    split at q
    case h_1 C' bm k0 k1 k2 k3 n k5 hm hs =>
      rw [Bool.and_eq_true, Bool.and_eq_true, Bool.and_eq_true] at q
      obtain ⟨⟨⟨q1, q2⟩, q3⟩, q4⟩ := q
      obtain rfl := beq_iff_eq.mp q1
      obtain rfl := beq_iff_eq.mp q2
      obtain ⟨nm, bs, mro, ns, qn, hd, sn, sub, ab, col, del⟩ := cd
      dsimp only at hm q3
      cases del with
      | true => cases q3
      | false =>
        subst hm
        obtain ⟨l⟩ := sl
        dsimp only at hs
        subst hs
        exact ⟨bm, ns, nm, qn, bs, hd, sn, sub, ab, col, dd, k0, k1, k2, k3, k5, X _ _ ho, PySem.W.tail_of_in X q4⟩
    case h_2 => cases q
  case h_2 => cases q
section
variable {prog : Program} {w : World} {A : Around} {E : Value -> Shared -> Prop} {h : Heap} {g : Array GenState} {d : Drawn} {t : Nat} {os : OsState}
variable {nm q : Str} {C N fI : Addr} {bs bm : List Value} {hdct : Bool} {sn : List Str} {sub : List Value} {ab : Bool} {col : Option Bool} {dd : Option Addr} {k0 k1 k2 k3 k5 : Option Value} {rest : List Value}
theorem xi_type {Q : Fin -> Shared -> Prop} (T : OwnTail h veTail bm) (hC : h.get? C = some (excClassObj nm q C N bs bm hdct sn sub ab col dd k0 k1 k2 k3 k5 "ValueError.__new__"))
    (hi : PySem.W.Looks (model prog w) h (typeLookup (.ref C) "__init__") (some (.ref fI))) (hb : ∀ self, PySem.W.Looks (model prog w) h (bindSpecial (.ref fI) self) (.ref fI, [self])) (hr : rest.length <= sizeLine)
    (hq : wpAny (model prog w) A (call (.ref fI) (.ref (h.objs.size + 1) :: rest)) (fun r s' => r = .none /\ Q (.done (.ret (.ref (h.objs.size + 1)))) s') E ⟨(h.push (xT rest)).push (xO C h.objs.size none), g, d, t, os⟩) :
    wpAny (model prog w) A (Builtin.«type.__call__» ⟨.ref C :: rest, []⟩) Q E ⟨h, g, d, t, os⟩ := by
  have Fb := PySem.F.excBase_ValueError
  have kk : ∀ b o, h.get? b = some o -> ((h.push (xT rest)).push (xO C h.objs.size none)).get? b = some o := fun b o z => Heap.get?_push_of_some _ (Heap.get?_push_of_some _ z)
  repeat (first | with_reducible (refine wpAny_loadPart_at hC ?_) | with_reducible (refine wpAny_madeBy_exc hC ?_) | wp_step)
  refine codeAny_call_builtin_code (Code.quiet_builtin _ Fb.quiet) (wpAny_check_new_subU Fb (by decide +kernel) T hC (codeAny_exc_new_subU Fb (by decide +kernel) Fb T hC ?_ hr))
  show wpAny _ _ _ _ _ _
  have C1 := kk _ _ hC
  have e1 : ((h.push (xT rest)).push (xO C h.objs.size none)).get? (h.objs.size + 1) = some (xO C h.objs.size none) := by heap_get
  have cC : (Value.ref C :: bm).contains (.ref C) = true := by simp
  have i1 := hi.keeps kk
  have b1 := (hb (.ref (h.objs.size + 1))).keeps kk
  unfold isInstance
  repeat (first | with_reducible (refine wpAny_loadPart_at e1 ?_) | (with_reducible (refine wpAny_isSubtype_exc C1 ?_); rw [cC]) | wp_step)
  show wpAny _ _ (typeLookup (.ref C) _) _ _ _
  refine i1.at ?_
  refine wpAny_holding (wpAny_bind (b1.at ?_))
  refine wpAny_bind (wpAny_mono hq (fun r s' hr => ?_) fun _ _ x => x)
  obtain ⟨rfl, hQ⟩ := hr
  wp_walk
  exact hQ
theorem xi_call {Q : Value -> Shared -> Prop} (T : OwnTail h veTail bm) (hC : h.get? C = some (excClassObj nm q C N bs bm hdct sn sub ab col dd k0 k1 k2 k3 k5 "ValueError.__new__"))
    (hi : PySem.W.Looks (model prog w) h (typeLookup (.ref C) "__init__") (some (.ref fI))) (hb : ∀ self, PySem.W.Looks (model prog w) h (bindSpecial (.ref fI) self) (.ref fI, [self])) (hr : rest.length <= sizeLine)
    (hq : wpAny (model prog w) (A.under (.builtin "type.__call__" ⟨.ref C :: rest, []⟩)) (call (.ref fI) (.ref (h.objs.size + 1) :: rest)) (fun r s' => r = .none /\ Q (.ref (h.objs.size + 1)) s') E ⟨(h.push (xT rest)).push (xO C h.objs.size none), g, d, t, os⟩) :
    wpAny (model prog w) A (call (.ref C) rest) Q E ⟨h, g, d, t, os⟩ := by
  have f1 := tc_lookup
  have f2 := tc_bind (.ref C)
  have hT : (⟨h, g, d, t, os⟩ : Shared).TypeIs (.ref C) "type" := ⟨_, hC, rfl⟩
  refine wpAny_call (codeAny_of_tree ?_)
  show wpAny _ _ (callAny (.ref C) _) _ _ _
  repeat (any_goals (first | assumption | with_reducible (refine wpAny_loadPart_at hC ?_) | wp_step))
  refine ⟨rfl, codeAny_call_builtin_at (Code.quiet_builtin _ (by decide +kernel)) entry_typeCall (wpAny_check_type_call_sub hC (xi_type T hC hi hb hr hq))⟩
end
section
variable {M : Model} {A : Around} {E : Value -> Shared -> Prop} {env : Env}
variable {nm q : Str} {C N : Addr} {bs bm : List Value} {hdct : Bool} {sn : List Str} {sub : List Value} {ab : Bool} {col : Option Bool} {dd : Option Addr} {k0 k1 k2 k3 k5 : Option Value} {newId : String}
theorem xi_raiseStmt {s : Shared} {x : Sem Value} {Q : Flow -> Shared -> Prop} (hbase : bm.contains (.type "BaseException") = true) (hh : A.handled = none)
    (h : wpAny M A x (fun v s1 => ∃ e t dx, v = .ref e /\ s1.heap.get? C = some (excClassObj nm q C N bs bm hdct sn sub ab col dd k0 k1 k2 k3 k5 newId) /\ s1.heap.get? e = some (xO C t dx) /\ E (.ref e) s1) E s) :
    wpAny M A (raiseStmt env (some x) none) Q E s := by
  have cB : (Value.ref C :: bm).contains (.type "BaseException") = true := by rw [List.contains_cons, hbase, Bool.or_true]
  unfold raiseStmt
  refine wpAny_bind (wpAny_mono h (fun v s1 h1 => ?_) fun _ _ x => x)
  obtain ⟨e, t, dx, rfl, hC, he, hE⟩ := h1
  obtain ⟨hp, g, d, tk, os⟩ := s1
  repeat (first | with_reducible (refine wpAny_loadPart_at he ?_) | with_reducible (refine wpAny_loadPart_at hC ?_) | (with_reducible (refine wpAny_isSubtype_exc hC ?_); rw [cB]) | wp_step)
  exact wpAny_raiseNew_none hh hE
end
end L2
namespace L2
open PySem PySem.Spec PyProof.Rows
def excN (C a : Addr) : HO := .ext fun h => ∃ t, h.get? a = some (xO C t none)
def excM (C a d : Addr) : HO := .ext fun h => ∃ t, h.get? a = some (xO C t (some d))
def del (H : Hp) (e : Addr) : Hp := fun b => if b = e then none else H b
theorem del_ne {H : Hp} {e b : Addr} (h : b ≠ e) : del H e b = H b := by unfold del; rw [if_neg h]
theorem ne_ext {H : Hp} {a b : Addr} {φ : Heap -> Prop} {o : HO} (h : H a = some (.ext φ)) (h' : H b = some o) (d : ∀ ψ, o ≠ .ext ψ) : b ≠ a := by
  rintro rfl
  rw [h] at h'
  exact d _ (Option.some.inj h').symm
section
variable {X : Cx} {pins : List (Addr × Obj)} {σ : St} {H : Hp} {s : Shared} {a C : Addr} {f : Str}
theorem Inv.drop {φ : Heap -> Prop} (I : Inv X pins σ H s) (ea : H a = some (.ext φ)) : Inv X pins σ (del H a) s := by
  have nn : ∀ b, H b = none -> del H a b = none := fun b q => by
    unfold del; split
    · rfl
    · exact q
  refine ⟨I.ok, I.os, I.bare, ⟨I.base.keep, I.base.slot, fun b o q n hx => nn b (I.base.free b o q n hx), I.base.there, fun b xs q => ?_, fun b o u q => ?_, fun b ps q => ?_⟩, I.loc, I.cell, nn _ I.free, fun x c e => nn _ (I.freeC x c e), fun p hp => ?_, fun b u q => ?_, I.len⟩
  · have z := I.base.tups b xs q
    rw [del_ne (ne_ext ea z fun ψ => by simp)]; exact z
  · have z := I.base.frzs b o u q
    rw [del_ne (ne_ext ea z fun ψ => by simp)]; exact z
  · obtain ⟨m, z⟩ := I.base.tbls b ps q
    exact ⟨m, by rw [del_ne (ne_ext ea z fun ψ => by simp)]; exact z⟩
  · obtain ⟨z1, z2, z3⟩ := I.pin p hp
    exact ⟨z1, nn _ z2, z3⟩
  · by_cases hb : b = a
    · unfold del at q; rw [if_pos hb] at q; cases q
    · rw [del_ne hb] at q
      exact (I.hok b u q).stay (fun _ _ _ r => r) (fun c r => by rw [del_ne (ne_ext ea r fun ψ => by simp)]; exact r) fun c xs r => by rw [del_ne (ne_ext ea r fun ψ => by simp)]; exact r
theorem xset_ok {y : V} {u : Value} {Q : Unit -> Shared -> Prop} (I : Inv X pins σ H s) (ea : H a = some (excN C a)) (q : ExcS X.K C f) (ry : RelV y u)
    (h : ∀ s' d, H d = none -> Inv X pins σ (upd (upd H a (excM C a d)) d (.xd [(f, y)])) s' -> Q () s') : wpAny (model X.prog X.w) X.A (setAttr (.ref a) f u) Q X.xe s := by
  obtain ⟨⟨t, ho⟩, _, _⟩ := (show ObjOk X.prog X.w H s.heap a (excN C a) from I.hok a _ ea)
  refine xs_set I.kIn q ho rfl rfl rfl fun h' d tk hd hx hn k => ?_
  have hHd : H d = none := by
    cases z : H d with
    | none => rfl
    | some u =>
      obtain ⟨o, e⟩ := hok_there (I.hok d u z)
      rw [hd] at e; cases e
  have na : ∀ b, H b = none -> b ≠ a := fun b z e => by rw [e, ea] at z; cases z
  have nd : ∀ b o, s.heap.get? b = some o -> b ≠ d := fun b o z e => by rw [e, hd] at z; cases z
  have nH : ∀ b o, H b = some o -> b ≠ d := fun b o z e => by rw [e, hHd] at z; cases z
  have go : ∀ b o, H b = some o -> (∀ ψ, o ≠ .ext ψ) -> upd (upd H a (excM C a d)) d (.xd [(f, y)]) b = some o := fun b o z e => by
    rw [upd_ne (nH b o z), upd_ne (ne_ext ea z e)]; exact z
  refine h _ d hHd (I.un (t' := tk) ⟨fun b o e n _ _ => k b o (na b n) e, fun b o e n _ _ => ⟨o.slots, k b o (na b n) e⟩, fun b o e n _ => ?_, fun b o e _ => ?_, fun b xs e => go b _ e fun ψ => by simp, fun b o u e => go b _ e fun ψ => by simp, fun b ps e => ⟨#[], ?_⟩⟩ fun b u e => ?_)
  · rw [upd_ne (nd b o e), upd_ne (na b n)]; exact n
  · by_cases hb : b = a
    · rw [hb]; exact ⟨_, hx⟩
    · exact ⟨o, k b o hb e⟩
  · rw [Array.append_empty]; exact go b _ e fun ψ => by simp
  · by_cases hb : b = d
    · subst hb
      rw [upd_same] at e
      cases e
      refine ⟨_, hn, fun g => ?_⟩
      show RelO (List.lookup g [(f, y)]) (if g = f then some u else none)
      by_cases hg : g = f
      · rw [if_pos hg]
        subst hg
        rw [List.lookup_cons_self]
        exact ry
      · rw [if_neg hg]
        have : List.lookup g [(f, y)] = none := by
          rw [List.lookup_cons, beq_false_of_ne hg]
          rfl
        rw [this]
        trivial
    · rw [upd_ne hb] at e
      by_cases hb2 : b = a
      · subst hb2
        rw [upd_same] at e
        cases e
        exact ⟨⟨t, hx⟩, ⟨_, hx⟩, fun h1 h2 ⟨t, z⟩ st => ⟨t, st _ z⟩⟩
      · rw [upd_ne hb2] at e
        refine (I.hok b u e).stay (fun c v hc r => k c v ?_ r) (fun c r => go c _ r fun ψ => by simp) fun c xs r => go c _ r fun ψ => by simp
        rcases hc with rfl | hc
        · exact hb2
        · exact ne_ext ea hc fun ψ => by simp
end
def sXset (K : PySem.W.Frag) (ta tv : TE) (f : Str) : TS := fun D σ H => tv σ H fun y H1 => ta σ H1 fun x H2 => ∃ a C, x = .ref a /\ H2 a = some (excN C a) /\ ExcS K C f /\ ∀ d, H2 d = none -> D.nx σ (upd (upd H2 a (excM C a d)) d (.xd [(f, y)]))
theorem ps_xset {X : Cx} {o value : Expr} {f : Str} {pos pos' : Pos} {ta tv : TE} (ha : PE X o ta) (hv : PE X value tv) (hs : swapsWith value (some (.Attribute o f pos')) pos.line X.env = pure false) : PS X (.Assign [.Attribute o f pos'] value pos) (sXset X.K ta tv f) := by
  intro pins s σ H D I h
  refine plainObj_wpAny_Assign_Attribute (thn (hv pins s σ H _ I h) fun u s1 ⟨y, H1, I1, ry, q⟩ => thn (ha pins s1 σ H1 _ I1 q) fun ov s2 ⟨x, H2, I2, rx, a, C, ex, ea, c, q2⟩ => ?_) hs
  subst ex
  obtain rfl : ov = Value.ref a := rx
  exact xset_ok I2 ea c ry fun s3 d hd I3 => ⟨σ, _, I3, q2 d hd⟩
def SpX (C : Addr) (f : Str) : Sp := fun vs H Q _ => ∃ a v, vs = [.ref a, v] /\ H a = some (excN C a) /\ ∀ d, H d = none -> Q .non (upd (upd H a (excM C a d)) d (.xd [(f, v)]))
structure ExI (K : PySem.W.Frag) (mg : Str -> Option Value) (x : Str) (C : Addr) (f : Str) : Prop where
  c : exiIn K C = true
  s : ExcS K C f
  p : ExcP K C f
  g : mg x = some (.ref C)
structure XCal (P : Program) (w : World) (K : PySem.W.Frag) (mg : Str -> Option Value) (base : Heap) (k : Nat) (x : Str) (C : Addr) (f : Str) : Prop where
  i : ExI K mg x C f
  ex : ∃ fI fd ps, Meth K C "__init__" fI /\ FnOk P w K mg base (CXE P w) k fI fd ps (SpX C f) /\ Binds K fd ps []
def tRaiseI (C : Addr) (f : Str) (G : St -> XK) (t : TA) : TS := fun _ σ H => t σ H fun vs H1 => ∃ v, vs = [v] /\ ∀ d, H1 d = none -> G σ (.ref C) (some d) (upd H1 d (.xd [(f, v)]))
section
variable {X : Cx} {C : Addr} {G : St -> XK} {f x : Str} {np cpos pos : Pos} {e : Expr} {es : List Expr} {t : TA} {k : Nat}
theorem ps_raiseI (hc : X.calm = true) (c : XCal X.prog X.w X.K X.mg X.base k x C f) (hr : Room (k + 1) X.A) (hg : Gl X x) (hx : RaiseD X G) (ha : PA X (e :: es) t)
    (he : starEach (e :: es) X.env = (false, eval e X.env) :: starEach es X.env := by rfl) (hpl : (backTo cpos (starEach es X.env)).any (·.1) = false := by rfl) (hdb : (x == ("__debug__" : Str)) = false := by decide) :
    PS X (.Raise (some (.Call (.Name x np) (e :: es) [] cpos)) none pos) (tRaiseI C f G t) := by
  intro pins s σ H D I h
  obtain ⟨fI, fd, ps, M, F, hb⟩ := c.ex
  have hpl' : (backTo cpos (starEach (e :: es) X.env)).any (·.1) = false := by
    rw [he]
    show ((false || (backTo cpos (starEach es X.env)).any (·.1))) = false
    rw [hpl]; rfl
  obtain ⟨bm, N, nm, qn, bs, hd, sn, sub, ab, col, dd, k0, k1, k2, k3, k5, hC, TL⟩ := exi_obj c.i.c I.mod.kin
  rw [arm_exec_Raise]
  refine wpAny_bind (wpAny_standAt (xi_raiseStmt (C := C) (nm := nm) (q := qn) (N := N) (bs := bs) (bm := bm) (hdct := hd) (sn := sn) (sub := sub) (ab := ab) (col := col) (dd := dd) (k0 := k0) (k1 := k1) (k2 := k2) (k3 := k3) (k5 := k5) (newId := "ValueError.__new__") (TL.hasType (by decide +kernel)) (I.ok.hd hc) ?_))
  refine wpAny_bind (wpAny_mono (wpAny_Call_ofName (ld_glob I hg c.i.g ?_ hdb)) (fun v s3 h3 => wpAny_bind (wpAny_standAt (wpAny_pure h3))) fun _ _ z => z)
  unfold callWith
  have pa := ha cpos pins s σ H _ I h
  rw [he] at pa ⊢
  rw [he] at hpl'
  refine wpAny_bind (wpAny_holding ?_)
  show wpAny _ _ (evalArgs (.ref C) true ((false, eval e X.env) :: backTo cpos (starEach es X.env)) []) _ _ _
  refine Calls.evalArgs_plain (thn pa fun us s1 ⟨vs, H1, I1, r1, v, ev, q1⟩ => wpAny_bind (wpAny_standAt ?_))
  subst ev
  have hlen : us.length <= sizeLine := by rw [<- r1.length, sizeLine_eq]; exact Nat.le_of_ble_eq_true rfl
  have hC1 := I1.bk _ _ hC
  have T1 := TL.keeps I1.bk
  have kin := I1.kIn
  have hsz := I1.sz
  have I2 : Inv X pins σ (upd H1 (s1.heap.objs.size + 1) (excN C (s1.heap.objs.size + 1))) { s1 with heap := (s1.heap.push (xT us)).push (xO C s1.heap.objs.size none) } := by
    have J := I1.kept (h' := s1.heap.push (xT us)) (t' := s1.toks) fun b o z => Heap.get?_push_of_some _ z
    have e2 : ((s1.heap.push (xT us)).push (xO C s1.heap.objs.size none)).get? (s1.heap.objs.size + 1) = some (xO C s1.heap.objs.size none) := by heap_get
    exact J.laid (a := s1.heap.objs.size + 1) (o := excN C (s1.heap.objs.size + 1)) (t' := s1.toks) (fun b u q => Heap.get?_push_of_some _ q) (Nat.le_of_eq (Heap.size_push _ _)) ⟨⟨_, e2⟩, ⟨_, e2⟩, fun h1 h2 ⟨t, z⟩ st => ⟨t, st _ z⟩⟩
  have hn1 : H1 (s1.heap.objs.size + 1) = none := I1.hok.fresh (Nat.le_succ _)
  have hsp : SpX C f [V.ref (s1.heap.objs.size + 1), v] (upd H1 (s1.heap.objs.size + 1) (excN C (s1.heap.objs.size + 1)))
      (fun z H2 => z = .non /\ ∃ d, H1 d = none /\ d ≠ s1.heap.objs.size + 1 /\ H2 = upd (upd (upd H1 (s1.heap.objs.size + 1) (excN C (s1.heap.objs.size + 1))) (s1.heap.objs.size + 1) (excM C (s1.heap.objs.size + 1) d)) d (.xd [(f, v)])) (fun _ _ _ => False) :=
    ⟨_, v, rfl, upd_same, fun d hd => by
      have hne : d ≠ s1.heap.objs.size + 1 := fun z => by rw [z, upd_same] at hd; cases hd
      exact ⟨rfl, d, by rw [upd_ne hne] at hd; exact hd, hne, rfl⟩⟩
  have r2 : Vals [V.ref (s1.heap.objs.size + 1), v] (Value.ref (s1.heap.objs.size + 1) :: us) := .cons rfl r1
  have hl : (Value.ref (s1.heap.objs.size + 1) :: us ++ []).length = ps.length := by
    have z := r2.length
    rw [F.len _ _ _ _ hsp] at z
    rw [List.append_nil]; exact z.symm
  have hb2 := hb _ (Value.ref (s1.heap.objs.size + 1) :: us) I2.kIn hl
  rw [List.append_nil] at hb2
  have hq0 : s1.heap.objs.size = s1.heap.objs.size := rfl
  have run := F.run _ X.stack _ _ ⟨Value.ref (s1.heap.objs.size + 1) :: us, []⟩ (Value.ref (s1.heap.objs.size + 1) :: us) _ _ _ (hr.make C us []) (I2.env0.make C us []) hb2 r2 hsp
  have hi : PySem.W.Looks (model X.prog X.w) s1.heap (typeLookup (.ref C) "__init__") (some (.ref fI)) := PySem.W.looks_findIn kin M.at_
  have hbd : ∀ self, PySem.W.Looks (model X.prog X.w) s1.heap (bindSpecial (.ref fI) self) (.ref fI, [self]) := fun self => PySem.W.bind_fn kin self (beq_iff_eq.mp M.fn)
  have fin : ∀ u s', CR (CXE X.prog X.w) X.stack X.prog X.w (upd H1 (s1.heap.objs.size + 1) (excN C (s1.heap.objs.size + 1))) { s1 with heap := (s1.heap.push (xT us)).push (xO C s1.heap.objs.size none) }
      (fun z H2 => z = .non /\ ∃ d, H1 d = none /\ d ≠ s1.heap.objs.size + 1 /\ H2 = upd (upd (upd H1 (s1.heap.objs.size + 1) (excN C (s1.heap.objs.size + 1))) (s1.heap.objs.size + 1) (excM C (s1.heap.objs.size + 1) d)) d (.xd [(f, v)])) (fun _ _ _ => False) (.ok (.ret u)) s' ->
      u = .none /\ s'.heap.get? C = some (excClassObj nm qn C N bs bm hd sn sub ab col dd k0 k1 k2 k3 k5 "ValueError.__new__") /\ ∃ t dx, s'.heap.get? (s1.heap.objs.size + 1) = some (xO C t dx) /\ X.xe (.ref (s1.heap.objs.size + 1)) s' := fun u s' hq => by
    obtain ⟨z, H3, I3, rz, ez, d, hd1, hne, eH⟩ := I2.after hq
    subst ez eH
    have ea : upd (upd (upd H1 (s1.heap.objs.size + 1) (excN C (s1.heap.objs.size + 1))) (s1.heap.objs.size + 1) (excM C (s1.heap.objs.size + 1) d)) d (.xd [(f, v)]) (s1.heap.objs.size + 1) = some (excM C (s1.heap.objs.size + 1) d) := by rw [upd_ne hne.symm, upd_same]
    obtain ⟨⟨t, ho⟩, _, _⟩ := (show ObjOk X.prog X.w _ s'.heap _ (excM C (s1.heap.objs.size + 1) d) from I3.hok _ _ ea)
    have eD : del (upd (upd (upd H1 (s1.heap.objs.size + 1) (excN C (s1.heap.objs.size + 1))) (s1.heap.objs.size + 1) (excM C (s1.heap.objs.size + 1) d)) d (.xd [(f, v)])) (s1.heap.objs.size + 1) = upd H1 d (.xd [(f, v)]) := by
      funext b
      by_cases hb : b = s1.heap.objs.size + 1
      · unfold del
        rw [if_pos hb, hb, upd_ne hne.symm, hn1]
      · rw [del_ne hb]
        by_cases hb2 : b = d
        · rw [hb2, upd_same, upd_same]
        · rw [upd_ne hb2, upd_ne hb, upd_ne hb, upd_ne hb2]
    have I4 := I3.drop ea
    rw [eD] at I4
    refine ⟨rz, I3.bk _ _ hC, t, some d, ho, hx pins σ _ s' _ C _ _ _ (some d) I4 ho rfl rfl rfl rfl ?_ ?_ (fun d' z => ⟨_, ho, z⟩) (q1 d hd1)⟩
    · rw [upd_ne hne.symm]; exact hn1
    · exact Heap.get?_none_of_le (Nat.le_succ_of_le hsz)
  obtain ⟨hp, gg, dr, tk, os⟩ := s1
  simp only [hpl']
  refine wpAny_bind (wpAny_keeperOf_exc hC1 ?_)
  refine wpAny_bind (xi_call T1 hC1 hi hbd hlen (wpAny_call (codeAny_mono run fun r s' hq => ?_)))
  cases r with
  | error e =>
    obtain ⟨_, _, _, _, _, _, _, _, _, _, _, _, _, _, _, _, hE⟩ := hq
    exact hE.elim
  | ok fl =>
    cases fl with
    | ret u =>
      obtain ⟨e1, e2, t, dx, e3, e4⟩ := fin u s' hq
      exact ⟨e1, wpAny_bind (wpAny_holding (wpAny_point (wpAny_pure ⟨_, t, dx, rfl, e2, e3, e4⟩)))⟩
    | next => exact False.elim hq
    | brk => exact False.elim hq
    | cont => exact False.elim hq
end
def tXfld (K : PySem.W.Frag) (ta : TE) (f : Str) : TE := fun σ H Q => ta σ H fun x H1 => ∃ a C d fs i, x = .ref a /\ H1 a = some (excD C a (some d)) /\ H1 d = some (.xd fs) /\ ExcP K C f /\ fs.lookup f = some (.int i) /\ Q (.int i) H1
theorem pe_xfld {X : Cx} {e : Expr} {f : Str} {pos : Pos} {ta : TE} (he : PE X e ta) (hb : attributeBase e f X.env (eval e X.env) = eval e X.env) : PE X (.Attribute e f pos) (tXfld X.K ta f) := by
  intro pins s σ H Q I h
  refine attr_of hb (thn (he pins s σ H _ I h) fun u s1 ⟨x, H1, I1, rx, a, C, d, fs, i, ex, ea, ed, q, l, hq⟩ => ?_)
  subst ex
  obtain rfl : u = Value.ref a := rx
  obtain ⟨⟨o, ho, hc, ⟨vs, hv⟩, hd⟩, _⟩ := (show ObjOk X.prog X.w H1 s1.heap a (excD C a (some d)) from I1.hok a _ ea)
  obtain ⟨mA, hn, hr⟩ := (show ObjOk X.prog X.w H1 s1.heap d (.xd fs) from I1.hok d _ ed)
  have hf := hr f
  rw [l] at hf
  cases hm : mA f with
  | none => rw [hm] at hf; exact hf.elim
  | some v =>
    rw [hm] at hf
    obtain ⟨tk, rfl⟩ : ∃ tk, v = Value.int i tk := hf
    exact xa_get I1.kIn q ho hc hv hd hn hm rfl ⟨.int i, H1, I1.tok _, ⟨tk, rfl⟩, hq⟩
section
variable {X : Cx} {K : PySem.W.Frag}
theorem call_isiD (hK : X.K = K) : CallR X (.builtin "isinstance") (fun xs H Q => ∃ a C c cv b d, xs = [.ref a, c] /\ clsV c = some cv /\ H a = some (excD C a (some d)) /\ ExcA K C /\ PySem.W.kitOne K (.ref C) cv = some b /\ Q (.bl b) H) := by
  subst hK
  intro pins s σ H xs us Q I r h
  obtain ⟨a, C, c, cv, b, d, rfl, hc, hE, hA, e, q⟩ := h
  obtain ⟨u, u', rfl, r1, r2⟩ := vals2 r
  obtain rfl : u = Value.ref a := r1
  obtain rfl := clsV_rel hc r2
  obtain ⟨⟨o, ho, hcl, _⟩, _⟩ := (show ObjOk X.prog X.w H s.heap a (excD C a (some d)) from I.hok a _ hE)
  exact PySem.W.kia_one (kitx_exc hA (mro_cls hA.ob)) I.kIn ⟨o, ho, hcl⟩ e (fun z => nomatch z) fun tk => ⟨.bl b, H, I.tok tk, rfl, q⟩
end
end L2
namespace Mw
open PySem L2
def top (i : Nat) : Stmt := PySem.Challenge.pw_mendweights_k14_books_replayed.main.body.getD i (.Pass ⟨0, 0, 0, 0⟩)
def mem (i j : Nat) : Stmt := match top i with
  | .ClassDef _ _ _ body _ _ _ _ _ _ _ => body.getD j (.Pass ⟨0, 0, 0, 0⟩)
  | _ => .Pass ⟨0, 0, 0, 0⟩
abbrev BN : List Str := ["abs", "len", "isinstance", "tuple", "list", "int", "bool", "range", "enumerate", "zip", "max", "sum", "ValueError"]
instance lamPos : LamPos := ⟨167, 32⟩
structure Prog (K : PySem.W.Frag) (mg : Str -> Option Value) (C_Hand C_PlainHand C_MarginHand C_HalvingHand C_SidesHand X_MendError X_NoFraction X_NoPoint X_NoSide X_NoRow X_NoTable X_NoText X_NotParted X_OneSide X_TooMany X_WrongBook T_code T_tab : Addr) : Prop where
  c_Hand : ClsAt K mg "Hand" C_Hand
  c_PlainHand : ClsAt K mg "PlainHand" C_PlainHand
  c_MarginHand : ClsAt K mg "MarginHand" C_MarginHand
  c_HalvingHand : ClsAt K mg "HalvingHand" C_HalvingHand
  c_SidesHand : ClsAt K mg "SidesHand" C_SidesHand
  x_MendError : ExR K mg "MendError" X_MendError
  x_NoFraction : ExR K mg "NoFraction" X_NoFraction
  x_NoPoint : ExR K mg "NoPoint" X_NoPoint
  x_NoSide : ExR K mg "NoSide" X_NoSide
  x_NoRow : ClN mg "NoRow" X_NoRow
  x_NoTable : ClN mg "NoTable" X_NoTable
  x_NoText : ClN mg "NoText" X_NoText
  x_NotParted : ClN mg "NotParted" X_NotParted
  x_OneSide : ClN mg "OneSide" X_OneSide
  x_TooMany : ClN mg "TooMany" X_TooMany
  x_WrongBook : ClN mg "WrongBook" X_WrongBook
  i_WrongBook : ExI K mg "WrongBook" X_WrongBook "place"
  m_WrongBook___init__ : MethAt K X_WrongBook "__init__" "WrongBook.__init__" (mem 11 0)
  a_WrongBook : ExcA K X_WrongBook
  k_WrongBook_ValueError : PySem.W.kitOne K (.ref X_WrongBook) (.type "ValueError") = some true
  k_WrongBook_NoFraction : PySem.W.kitOne K (.ref X_WrongBook) (.ref X_NoFraction) = some false
  k_WrongBook_NoPoint : PySem.W.kitOne K (.ref X_WrongBook) (.ref X_NoPoint) = some false
  k_WrongBook_NoRow : PySem.W.kitOne K (.ref X_WrongBook) (.ref X_NoRow) = some false
  k_WrongBook_NoSide : PySem.W.kitOne K (.ref X_WrongBook) (.ref X_NoSide) = some false
  k_WrongBook_NoTable : PySem.W.kitOne K (.ref X_WrongBook) (.ref X_NoTable) = some false
  k_WrongBook_NoText : PySem.W.kitOne K (.ref X_WrongBook) (.ref X_NoText) = some false
  k_WrongBook_NotParted : PySem.W.kitOne K (.ref X_WrongBook) (.ref X_NotParted) = some false
  k_WrongBook_OneSide : PySem.W.kitOne K (.ref X_WrongBook) (.ref X_OneSide) = some false
  k_WrongBook_TooMany : PySem.W.kitOne K (.ref X_WrongBook) (.ref X_TooMany) = some false
  k_WrongBook_WrongBook : PySem.W.kitOne K (.ref X_WrongBook) (.ref X_WrongBook) = some true
  e_WrongBook_MendError : PySem.W.exmOne K (.ref X_WrongBook) (.ref X_MendError) = some true
  n_Hand_held : NoAttr K C_Hand "held"
  n_Hand_made : NoAttr K C_Hand "made"
  n_Hand_many : NoAttr K C_Hand "many"
  m_Hand___init__ : MethAt K C_Hand "__init__" "Hand.__init__" (mem 26 0)
  m_Hand_put : MethAt K C_Hand "put" "Hand.put" (mem 26 2)
  m_Hand_weights : MethAt K C_Hand "weights" "Hand.weights" (mem 26 3)
  m_Hand_mistakes : MethAt K C_Hand "mistakes" "Hand.mistakes" (mem 26 4)
  m_Hand_would_err : MethAt K C_Hand "would_err" "Hand.would_err" (mem 26 5)
  m_Hand_look_at : MethAt K C_Hand "look_at" "Hand.look_at" (mem 26 6)
  m_Hand_has_side : MethAt K C_Hand "has_side" "Hand.has_side" (mem 26 7)
  m_Hand_side_of : MethAt K C_Hand "side_of" "Hand.side_of" (mem 26 8)
  m_Hand_is_mistake : MethAt K C_Hand "is_mistake" "Hand.is_mistake" (mem 26 9)
  m_Hand_mend : MethAt K C_Hand "mend" "Hand.mend" (mem 26 10)
  n_PlainHand_held : NoAttr K C_PlainHand "held"
  n_PlainHand_made : NoAttr K C_PlainHand "made"
  n_PlainHand_many : NoAttr K C_PlainHand "many"
  m_PlainHand_mend : MethAt K C_PlainHand "mend" "PlainHand.mend" (mem 27 0)
  m_PlainHand___init__ : MethAt K C_PlainHand "__init__" "Hand.__init__" (mem 26 0)
  m_PlainHand_put : MethAt K C_PlainHand "put" "Hand.put" (mem 26 2)
  m_PlainHand_weights : MethAt K C_PlainHand "weights" "Hand.weights" (mem 26 3)
  m_PlainHand_mistakes : MethAt K C_PlainHand "mistakes" "Hand.mistakes" (mem 26 4)
  m_PlainHand_would_err : MethAt K C_PlainHand "would_err" "Hand.would_err" (mem 26 5)
  m_PlainHand_look_at : MethAt K C_PlainHand "look_at" "Hand.look_at" (mem 26 6)
  m_PlainHand_has_side : MethAt K C_PlainHand "has_side" "Hand.has_side" (mem 26 7)
  m_PlainHand_side_of : MethAt K C_PlainHand "side_of" "Hand.side_of" (mem 26 8)
  m_PlainHand_is_mistake : MethAt K C_PlainHand "is_mistake" "Hand.is_mistake" (mem 26 9)
  n_MarginHand_held : NoAttr K C_MarginHand "held"
  n_MarginHand_made : NoAttr K C_MarginHand "made"
  n_MarginHand_many : NoAttr K C_MarginHand "many"
  n_MarginHand_margin : NoAttr K C_MarginHand "margin"
  m_MarginHand___init__ : MethAt K C_MarginHand "__init__" "MarginHand.__init__" (mem 28 0)
  m_MarginHand_is_mistake : MethAt K C_MarginHand "is_mistake" "MarginHand.is_mistake" (mem 28 1)
  m_MarginHand_mend : MethAt K C_MarginHand "mend" "PlainHand.mend" (mem 27 0)
  m_MarginHand_put : MethAt K C_MarginHand "put" "Hand.put" (mem 26 2)
  m_MarginHand_weights : MethAt K C_MarginHand "weights" "Hand.weights" (mem 26 3)
  m_MarginHand_mistakes : MethAt K C_MarginHand "mistakes" "Hand.mistakes" (mem 26 4)
  m_MarginHand_would_err : MethAt K C_MarginHand "would_err" "Hand.would_err" (mem 26 5)
  m_MarginHand_look_at : MethAt K C_MarginHand "look_at" "Hand.look_at" (mem 26 6)
  m_MarginHand_has_side : MethAt K C_MarginHand "has_side" "Hand.has_side" (mem 26 7)
  m_MarginHand_side_of : MethAt K C_MarginHand "side_of" "Hand.side_of" (mem 26 8)
  n_HalvingHand_held : NoAttr K C_HalvingHand "held"
  n_HalvingHand_made : NoAttr K C_HalvingHand "made"
  n_HalvingHand_many : NoAttr K C_HalvingHand "many"
  m_HalvingHand___init__ : MethAt K C_HalvingHand "__init__" "HalvingHand.__init__" (mem 29 0)
  m_HalvingHand_side_of : MethAt K C_HalvingHand "side_of" "HalvingHand.side_of" (mem 29 1)
  m_HalvingHand_mend : MethAt K C_HalvingHand "mend" "HalvingHand.mend" (mem 29 2)
  m_HalvingHand_put : MethAt K C_HalvingHand "put" "Hand.put" (mem 26 2)
  m_HalvingHand_weights : MethAt K C_HalvingHand "weights" "Hand.weights" (mem 26 3)
  m_HalvingHand_mistakes : MethAt K C_HalvingHand "mistakes" "Hand.mistakes" (mem 26 4)
  m_HalvingHand_would_err : MethAt K C_HalvingHand "would_err" "Hand.would_err" (mem 26 5)
  m_HalvingHand_look_at : MethAt K C_HalvingHand "look_at" "Hand.look_at" (mem 26 6)
  m_HalvingHand_has_side : MethAt K C_HalvingHand "has_side" "Hand.has_side" (mem 26 7)
  m_HalvingHand_is_mistake : MethAt K C_HalvingHand "is_mistake" "Hand.is_mistake" (mem 26 9)
  n_SidesHand_held : NoAttr K C_SidesHand "held"
  n_SidesHand_made : NoAttr K C_SidesHand "made"
  n_SidesHand_many : NoAttr K C_SidesHand "many"
  n_SidesHand_sides : NoAttr K C_SidesHand "sides"
  m_SidesHand___init__ : MethAt K C_SidesHand "__init__" "SidesHand.__init__" (mem 30 0)
  m_SidesHand_has_side : MethAt K C_SidesHand "has_side" "SidesHand.has_side" (mem 30 1)
  m_SidesHand_side_products : MethAt K C_SidesHand "side_products" "SidesHand.side_products" (mem 30 2)
  m_SidesHand_side_of : MethAt K C_SidesHand "side_of" "SidesHand.side_of" (mem 30 3)
  m_SidesHand_mend : MethAtL K C_SidesHand "mend" "SidesHand.mend" (mem 30 4) T_code T_tab
  m_SidesHand_put : MethAt K C_SidesHand "put" "Hand.put" (mem 26 2)
  m_SidesHand_weights : MethAt K C_SidesHand "weights" "Hand.weights" (mem 26 3)
  m_SidesHand_mistakes : MethAt K C_SidesHand "mistakes" "Hand.mistakes" (mem 26 4)
  m_SidesHand_would_err : MethAt K C_SidesHand "would_err" "Hand.would_err" (mem 26 5)
  m_SidesHand_look_at : MethAt K C_SidesHand "look_at" "Hand.look_at" (mem 26 6)
  m_SidesHand_is_mistake : MethAt K C_SidesHand "is_mistake" "Hand.is_mistake" (mem 26 9)
  d_Hand_PlainHand : C_Hand ≠ C_PlainHand
  d_Hand_MarginHand : C_Hand ≠ C_MarginHand
  d_PlainHand_MarginHand : C_PlainHand ≠ C_MarginHand
  d_Hand_HalvingHand : C_Hand ≠ C_HalvingHand
  d_PlainHand_HalvingHand : C_PlainHand ≠ C_HalvingHand
  d_MarginHand_HalvingHand : C_MarginHand ≠ C_HalvingHand
  d_Hand_SidesHand : C_Hand ≠ C_SidesHand
  d_PlainHand_SidesHand : C_PlainHand ≠ C_SidesHand
  d_MarginHand_SidesHand : C_MarginHand ≠ C_SidesHand
  d_HalvingHand_SidesHand : C_HalvingHand ≠ C_SidesHand
  b_PlainHand___init__ : BaseAt K C_PlainHand "__init__" "Hand.__init__" (mem 26 0)
  b_Hand___init__ : BaseAt K C_Hand "__init__" "Hand.__init__" (mem 26 0)
def Gnd.make (k m sd : Nat) : Gnd := if k = 3 then .v (Vnd.new m) else if k = 4 then .s (Snd.new m sd) else .p (Hnd.new k 3 m)
structure MkOk (k m sd : Nat) : Prop where
  five : k <= 4
  pos : 0 < m
  v12 : k = 3 -> m <= 12
  few : k ≠ 3 -> m <= 4
  s25 : k = 4 -> 2 <= sd /\ sd <= 5
theorem Gnd.make_err (k m sd : Nat) : (Gnd.make k m sd).err = 0 := by unfold Gnd.make; split; rfl; split <;> rfl
theorem Gnd.make_ok {k m sd : Nat} (h : MkOk k m sd) : (Gnd.make k m sd).Ok := by
  unfold Gnd.make
  by_cases h3 : k = 3
  · rw [if_pos h3]; exact Vnd.new_ok h.pos (h.v12 h3)
  · rw [if_neg h3]
    by_cases h4 : k = 4
    · rw [if_pos h4]; exact Snd.new_ok h.pos (h.few h3) (h.s25 h4).1 (h.s25 h4).2
    · rw [if_neg h4]; exact Hnd.new_ok (by have := h.five; omega) h.pos (h.few h3)
def spMade (cls : Nat -> Addr) (ks : List Nat) : Sp := fun vs H Q _ => ∃ k m sd : Nat, vs = [V.int k, .int m, .int sd] /\ MkOk k m sd /\ TbL H (cls 5) /\ ∀ r H', Same H H' -> H r = none -> GAt cls ks H' r (Gnd.make k m sd) -> Q (.ref r) H'
theorem Gnd.small_of {g : Gnd} (h : g.err <= 100) : g.Small 0 := by
  have e : errTop = 1000000 := rfl
  cases g with
  | p g => show g.err <= errTop + 0; have : g.err <= 100 := h; omega
  | v g => show g.err <= 300 + 0; have : g.err <= 100 := h; omega
  | s g => show g.err <= errTop + 0; have : g.err <= 100 := h; omega
theorem Gnd.make_has {k m sd : Nat} (hO : MkOk k m sd) (h2 : k ≠ 4 -> sd = 2) (z : Int) : (Gnd.make k m sd).has z = decide (0 <= z /\ z < (sd : Int)) := by
  unfold Gnd.make
  by_cases h3 : k = 3
  · rw [if_pos h3, h2 (by omega)]
    show decide (z = 0 \/ z = 1) = _
    exact decide_eq_decide.mpr (by omega)
  · rw [if_neg h3]
    by_cases h4 : k = 4
    · rw [if_pos h4]; rfl
    · rw [if_neg h4, h2 h4]
      show decide (z = 0 \/ z = 1) = _
      exact decide_eq_decide.mpr (by omega)
theorem paired_two {α β γ : Type} {R : α -> β -> Prop} {S : γ -> β -> Prop} {Q : α -> γ -> Prop} (h : ∀ a b c, R a b -> S c b -> Q a c) : ∀ {as : List α} {cs : List γ} {bs : List β}, Paired R as bs -> Paired S cs bs -> Paired Q as cs
  | _, _, _, .nil, .nil => .nil
  | _, _, _, .cons r t, .cons s u => .cons (h _ _ _ r s) (paired_two h t u)
theorem paired_map {α β : Type} {f : α -> V} {g : β -> V} {R : V -> V -> Prop} : ∀ {as : List α} {bs : List β}, Paired (fun a b => R (f a) (g b)) as bs -> Paired R (as.map f) (bs.map g)
  | _, _, .nil => .nil
  | _, _, .cons r t => .cons r (paired_map t)
theorem plain_ints (xs : List Int) : (xs.map V.int).all plainV = true := by
  rw [List.all_map]; exact List.all_eq_true.mpr fun _ _ => rfl
theorem held_pair {K : PySem.W.Frag} {H : Hp} {t t' : Addr} {g : Gnd} (h : HeldAt H t g) (h' : HeldAt H t' g) : ∃ xs ys, SqT K H t xs /\ SqT K H t' ys /\ Paired (Deep K H 1) xs ys := by
  cases g with
  | p g => exact ⟨_, _, SqT.of h, SqT.of h', Deep.all (plain_ints _)⟩
  | v g =>
    obtain ⟨ts, e, q⟩ := h
    obtain ⟨us, e', q'⟩ := h'
    refine ⟨_, _, SqT.of e, SqT.of e', ?_⟩
    have : Paired (fun a b => Deep K H 1 (V.ref a) (V.ref b)) ts us := paired_two (fun a b c z y => .inr ⟨a, c, _, _, rfl, rfl, .inr ⟨SqT.of z, SqT.of y⟩, Deep.all rfl⟩) q q'
    exact paired_map this
  | s g =>
    obtain ⟨ts, e, q⟩ := h
    obtain ⟨us, e', q'⟩ := h'
    refine ⟨_, _, SqT.of e, SqT.of e', ?_⟩
    have : Paired (fun a b => Deep K H 1 (V.ref a) (V.ref b)) ts us := paired_two (fun a b c z y => .inr ⟨a, c, _, _, rfl, rfl, .inr ⟨SqT.of z, SqT.of y⟩, Deep.all (plain_ints _)⟩) q q'
    exact paired_map this
def spPointsB (K : PySem.W.Frag) : Sp := fun vs H Q _ => ∃ (a : Addr) (ds : List Int) (m g n blo bhi : Int), vs = [.ref a, .int m, .int g, .int n] /\ SqL K H a (ds.map V.int) /\ 0 < m /\ m <= 12 /\ 0 <= n /\ n <= 1000 /\ n * m <= ds.length /\ (∀ (j : Nat) d, (j : Int) < n * m -> ds[j]? = some d -> blo <= d /\ d <= bhi) /\
  ∀ r H' (as : List Addr) (ps : List (List Int)), Same H H' -> H r = none -> H' r = some (.lst (as.map V.ref)) -> PtsAt K H' as ps -> ps.length = n.toNat -> (∀ p ∈ ps, p.length = m.toNat) -> (∀ p ∈ ps, ∀ x ∈ p, blo - g <= x /\ x <= bhi - g) -> Q (.ref r) H'
structure Row5 (k m sd : Nat) (q : List Int × Int) : Prop where
  cnt : q.1.length = m
  low : ∀ x ∈ q.1, -4 <= x /\ x <= 4
  bin : k = 3 -> ∀ x ∈ q.1, x = 0 \/ x = 1
  lo : 0 <= q.2
  hi : q.2 < sd
def spRows5 (K : PySem.W.Frag) : Sp := fun vs H Q _ => ∃ (a : Addr) (ns : List Int) (hd : Int) (k m sd : Nat), vs = [.ref a, .int hd, .int k, .int m, .int sd] /\ SqL K H a (ns.map V.int) /\ MkOk k m sd /\ (k ≠ 4 -> sd = 2) /\ 2 <= sd /\ sd <= 5 /\
  ∀ r H' (as : List Addr) (rs : List (List Int × Int)), Same H H' -> H r = none -> H' r = some (.lst (as.map V.ref)) -> RowsAt K H' as rs -> rs.length <= 8 -> (∀ q ∈ rs, Row5 k m sd q) -> Q (.ref r) H'
def vis (rs : List (List Int × Int)) (g : Gnd) : Nat -> Gnd × List Nat
  | 0 => (g, [])
  | t + 1 => match rs[t % rs.length]? with
    | none => vis rs g t
    | some r => if (vis rs g t).1.wrong r.1 r.2 = true then ((vis rs g t).1.step r.1 r.2, (vis rs g t).2 ++ [t % rs.length]) else vis rs g t
section
variable {rs : List (List Int × Int)} {g : Gnd} {t u : Nat} {r : List Int × Int}
theorem vis_right (h : rs[t % rs.length]? = some r) (hw : (vis rs g t).1.wrong r.1 r.2 = false) : vis rs g (t + 1) = vis rs g t := by
  show (match rs[t % rs.length]? with | none => vis rs g t | some r => if (vis rs g t).1.wrong r.1 r.2 = true then ((vis rs g t).1.step r.1 r.2, (vis rs g t).2 ++ [t % rs.length]) else vis rs g t) = _
  rw [h]
  show (if (vis rs g t).1.wrong r.1 r.2 = true then _ else _) = _
  rw [if_neg (by rw [hw]; decide)]
theorem vis_wrong (h : rs[t % rs.length]? = some r) (hw : (vis rs g t).1.wrong r.1 r.2 = true) : vis rs g (t + 1) = ((vis rs g t).1.step r.1 r.2, (vis rs g t).2 ++ [t % rs.length]) := by
  show (match rs[t % rs.length]? with | none => vis rs g t | some r => if (vis rs g t).1.wrong r.1 r.2 = true then ((vis rs g t).1.step r.1 r.2, (vis rs g t).2 ++ [t % rs.length]) else vis rs g t) = _
  rw [h]
  show (if (vis rs g t).1.wrong r.1 r.2 = true then _ else _) = _
  rw [if_pos hw]
theorem ring_get (hne : rs ≠ []) (t : Nat) : ∃ r, rs[t % rs.length]? = some r /\ r ∈ rs := by
  have h : t % rs.length < rs.length := Nat.mod_lt _ (List.length_pos_iff.mpr hne)
  exact ⟨_, List.getElem?_eq_getElem h, List.getElem_mem h⟩
theorem vis_cases (hne : rs ≠ []) (t : Nat) : ∃ r, rs[t % rs.length]? = some r /\ r ∈ rs /\ (((vis rs g t).1.wrong r.1 r.2 = false /\ vis rs g (t + 1) = vis rs g t) \/ ((vis rs g t).1.wrong r.1 r.2 = true /\ vis rs g (t + 1) = ((vis rs g t).1.step r.1 r.2, (vis rs g t).2 ++ [t % rs.length]))) := by
  obtain ⟨r, h, hm⟩ := ring_get hne t
  refine ⟨r, h, hm, ?_⟩
  cases hw : (vis rs g t).1.wrong r.1 r.2 with
  | false => exact .inl ⟨rfl, vis_right h hw⟩
  | true => exact .inr ⟨rfl, vis_wrong h hw⟩
theorem vis_err (t : Nat) : (vis rs g t).1.err = g.err + (vis rs g t).2.length /\ (vis rs g t).1.many = g.many /\ ∀ z, (vis rs g t).1.has z = g.has z := by
  by_cases hne : rs = []
  · have e : ∀ t, vis rs g t = (g, []) := fun t => by
      induction t with
      | zero => rfl
      | succ t ih =>
        show (match rs[t % rs.length]? with | none => vis rs g t | some r => _) = _
        rw [hne] at *
        exact ih
    rw [e t]
    exact ⟨rfl, rfl, fun _ => rfl⟩
  induction t with
  | zero => exact ⟨rfl, rfl, fun _ => rfl⟩
  | succ t ih =>
    obtain ⟨r, hr, hm, ⟨_, e⟩ | ⟨hw, e⟩⟩ := vis_cases (g := g) hne t
    · rw [e]; exact ih
    · rw [e]
      refine ⟨?_, ?_, fun z => ?_⟩
      · show ((vis rs g t).1.step r.1 r.2).err = g.err + ((vis rs g t).2 ++ [t % rs.length]).length
        rw [Gnd.step_err, hw, List.length_append, ih.1]
        show _ + 1 = _ + (_ + 1)
        omega
      · show ((vis rs g t).1.step r.1 r.2).many = _
        rw [Gnd.step_many, ih.2.1]
      · show ((vis rs g t).1.step r.1 r.2).has z = _
        rw [Gnd.step_has, ih.2.2 z]
end
def Fit (g : Gnd) (r : List Int × Int) : Prop := g.PtOk r.1 /\ g.has r.2 = true
theorem Gnd.step_pt (g : Gnd) (x : List Int) (z : Int) {p : List Int} (h : g.PtOk p) : (g.step x z).PtOk p := by
  cases g with
  | p g => exact ⟨by have := h.len; show p.length = (g.step x z).many; rw [Hnd.step_many]; exact this, h.low⟩
  | v g => exact ⟨by have := h.len; show p.length = (g.step x z).many; rw [Vnd.step_many]; exact this, h.low⟩
  | s g => exact ⟨by have := h.len; show p.length = (g.step x z.toNat).many; rw [Snd.step_many]; exact this, h.low⟩
theorem vis_fit {rs : List (List Int × Int)} {g : Gnd} (ho : g.Ok) (hf : ∀ r ∈ rs, Fit g r) (hne : rs ≠ []) (t : Nat) : (vis rs g t).1.Ok /\ ∀ r ∈ rs, Fit (vis rs g t).1 r := by
  induction t with
  | zero => exact ⟨ho, hf⟩
  | succ t ih =>
    obtain ⟨r, hr, hm, ⟨_, e⟩ | ⟨hw, e⟩⟩ := vis_cases (g := g) hne t
    · rw [e]; exact ih
    · rw [e]
      refine ⟨ih.1.step (ih.2 r hm).1 (ih.2 r hm).2, fun r' hr' => ⟨Gnd.step_pt _ _ _ (ih.2 r' hr').1, ?_⟩⟩
      show ((vis rs g t).1.step r.1 r.2).has r'.2 = true
      rw [Gnd.step_has]; exact (ih.2 r' hr').2
def lenAt (H : Hp) (c : Addr) : Nat := match H c with
  | some (.lst xs) => xs.length
  | _ => 0
theorem lenAt_of {H : Hp} {c : Addr} {xs : List V} (h : H c = some (.lst xs)) : lenAt H c = xs.length := by unfold lenAt; rw [h]
theorem fit_make {k m sd : Nat} {q : List Int × Int} (hO : MkOk k m sd) (h2 : k ≠ 4 -> sd = 2) (h : Row5 k m sd q) : Fit (Gnd.make k m sd) q := by
  refine ⟨?_, by rw [Gnd.make_has hO h2]; exact decide_eq_true ⟨h.lo, h.hi⟩⟩
  have hlow : ∀ x ∈ q.1, -1000 <= x /\ x <= 1000 := fun x hx => by have := h.low x hx; omega
  unfold Gnd.make
  by_cases h3 : k = 3
  · rw [if_pos h3]; exact ⟨h.cnt, h.bin h3⟩
  · rw [if_neg h3]
    by_cases h4 : k = 4
    · rw [if_pos h4]; exact ⟨h.cnt, hlow⟩
    · rw [if_neg h4]; exact ⟨h.cnt, hlow⟩
theorem fit_step {g : Gnd} {r : List Int × Int} (x : List Int) (z : Int) (h : Fit g r) : Fit (g.step x z) r := ⟨Gnd.step_pt _ _ _ h.1, by rw [Gnd.step_has]; exact h.2⟩
theorem rows_deep {K : PySem.W.Frag} {H : Hp} {as : List Addr} {rs : List (List Int × Int)} (h : RowsAt K H as rs) : Paired (Deep K H 3) (as.map V.ref) (as.map V.ref) := by
  unfold RowsAt at h
  induction h with
  | nil => exact .nil
  | cons r _ ih =>
    obtain ⟨p, q1, q2⟩ := r
    exact .cons (.inr ⟨_, _, _, _, rfl, rfl, .inr ⟨q1, q1⟩, .cons (.inr ⟨_, _, _, _, rfl, rfl, .inr ⟨q2, q2⟩, Deep.all (plain_ints _)⟩) (.cons (Deep.same rfl) .nil)⟩) ih
def rowAt (rs : List (List Int × Int)) (n : Int) : Option (List Int × Int) := if 0 <= n then rs[n.toNat]? else none
def goes (rs : List (List Int × Int)) (g : Gnd) (bk : List Int) : Nat -> Option Gnd
  | 0 => some g
  | i + 1 => (goes rs g bk i).bind fun g' => ((bk[i]?).bind (rowAt rs)).bind fun r => if g'.wrong r.1 r.2 = true then some (g'.step r.1 r.2) else none
section
variable {rs : List (List Int × Int)} {g g' g1 g2 : Gnd} {bk : List Int} {i j : Nat} {n : Int} {r : List Int × Int}
theorem goes_succ : goes rs g bk (i + 1) = (goes rs g bk i).bind fun g' => ((bk[i]?).bind (rowAt rs)).bind fun r => if g'.wrong r.1 r.2 = true then some (g'.step r.1 r.2) else none := rfl
theorem goes_step (h : goes rs g bk i = some g') (hb : bk[i]? = some n) (h0 : 0 <= n) (hr : rs[n.toNat]? = some r) (hw : g'.wrong r.1 r.2 = true) : goes rs g bk (i + 1) = some (g'.step r.1 r.2) := by
  rw [goes_succ, h, hb, Option.bind_some, Option.bind_some, rowAt, if_pos h0, hr, Option.bind_some, if_pos hw]
theorem goes_right (h : goes rs g bk i = some g') (hb : bk[i]? = some n) (h0 : 0 <= n) (hr : rs[n.toNat]? = some r) (hw : g'.wrong r.1 r.2 = false) : goes rs g bk (i + 1) = none := by
  rw [goes_succ, h, hb, Option.bind_some, Option.bind_some, rowAt, if_pos h0, hr, Option.bind_some, if_neg (by rw [hw]; decide)]
theorem goes_out (hb : bk[i]? = some n) (h0 : ¬ (0 <= n /\ n < (rs.length : Int))) : goes rs g bk (i + 1) = none := by
  have e : rowAt rs n = none := by
    unfold rowAt
    split
    · exact List.getElem?_eq_none (by omega)
    · rfl
  rw [goes_succ, hb, Option.bind_some, e]
  cases goes rs g bk i <;> rfl
theorem goes_none (h : goes rs g bk i = none) (hij : i <= j) : goes rs g bk j = none := by
  induction hij with
  | refl => exact h
  | step _ ih => rw [goes_succ, ih]; rfl
theorem goes_ok (ho : g.Ok) (hf : ∀ r ∈ rs, Fit g r) (h : goes rs g bk i = some g') : g'.Ok /\ (∀ r ∈ rs, Fit g' r) /\ g'.err = g.err + i := by
  induction i generalizing g' with
  | zero => cases h; exact ⟨ho, hf, rfl⟩
  | succ i ih =>
    rw [goes_succ] at h
    obtain ⟨g2, h2, h⟩ := Option.bind_eq_some_iff.mp h
    obtain ⟨r, hr, h⟩ := Option.bind_eq_some_iff.mp h
    obtain ⟨n, hn, hr⟩ := Option.bind_eq_some_iff.mp hr
    obtain ⟨a, b, c⟩ := ih h2
    have hm : r ∈ rs := by
      unfold rowAt at hr
      split at hr
      · exact List.mem_of_getElem? hr
      · cases hr
    by_cases hw : g2.wrong r.1 r.2 = true
    · rw [if_pos hw] at h
      cases h
      refine ⟨a.step (b r hm).1 (b r hm).2, fun r' hr' => fit_step _ _ (b r' hr'), ?_⟩
      rw [Gnd.step_err, hw, c]
      show _ + 1 = _
      omega
    · rw [if_neg hw] at h; cases h
theorem goes_more {x : List Int} (hi : i <= bk.length) : goes rs g (bk ++ x) i = goes rs g bk i := by
  induction i with
  | zero => rfl
  | succ i ih => rw [goes_succ, goes_succ, ih (by omega), List.getElem?_append_left (by omega)]
inductive Ends (rs : List (List Int × Int)) (g : Gnd) (bk : List Int) : Gnd -> Option Nat -> Prop where
  | all {g' : Gnd} (h : goes rs g bk bk.length = some g') : Ends rs g bk g' none
  | at {g' : Gnd} {i : Nat} (hi : i < bk.length) (h : goes rs g bk i = some g') (hn : goes rs g bk (i + 1) = none) : Ends rs g bk g' (some i)
theorem ends_uniq {p q : Option Nat} (a : Ends rs g bk g1 p) (b : Ends rs g bk g2 q) : g1 = g2 /\ p = q := by
  cases a with
  | all h =>
    cases b with
    | all h' => rw [h] at h'; cases h'; exact ⟨rfl, rfl⟩
    | «at» hi h' hn => rw [goes_none hn hi] at h; cases h
  | «at» hi h hn =>
    cases b with
    | all h' => rw [goes_none hn hi] at h'; cases h'
    | @«at» j hi' h' hn' =>
      rename_i i
      rcases Nat.lt_trichotomy i j with z | z | z
      · rw [goes_none hn z] at h'; cases h'
      · subst z; rw [h] at h'; cases h'; exact ⟨rfl, rfl⟩
      · rw [goes_none hn' z] at h; cases h
abbrev intsOf (bk : List Nat) : List Int := bk.map fun n : Nat => (n : Int)
theorem numsV_eq (bk : List Nat) : numsV bk = (intsOf bk).map V.int := by rw [List.map_map]; rfl
theorem goes_vis (t : Nat) : goes rs g (intsOf (vis rs g t).2) (intsOf (vis rs g t).2).length = some (vis rs g t).1 := by
  by_cases hne : rs = []
  · have e : ∀ t, vis rs g t = (g, []) := fun t => by
      induction t with
      | zero => rfl
      | succ t ih =>
        show (match rs[t % rs.length]? with | none => vis rs g t | some r => _) = _
        rw [hne] at *
        exact ih
    rw [e t]; rfl
  induction t with
  | zero => rfl
  | succ t ih =>
    obtain ⟨r, hr, hm, ⟨_, e⟩ | ⟨hw, e⟩⟩ := vis_cases (g := g) hne t
    · rw [e]; exact ih
    · rw [e]
      show goes rs g (intsOf ((vis rs g t).2 ++ [t % rs.length])) (intsOf ((vis rs g t).2 ++ [t % rs.length])).length = some ((vis rs g t).1.step r.1 r.2)
      have el : (intsOf ((vis rs g t).2 ++ [t % rs.length])).length = (intsOf (vis rs g t).2).length + 1 := by simp
      have ea : intsOf ((vis rs g t).2 ++ [t % rs.length]) = intsOf (vis rs g t).2 ++ [((t % rs.length : Nat) : Int)] := by simp
      rw [el, ea]
      refine goes_step (n := ((t % rs.length : Nat) : Int)) (by rw [goes_more (Nat.le_refl _)]; exact ih) ?_ (by omega) (by rw [Int.toNat_natCast]; exact hr) hw
      rw [List.getElem?_append_right (Nat.le_refl _), Nat.sub_self]; rfl
end
theorem cut_to_len {α : Type} (xs : List α) (k : Nat) : (cutL xs none (some (k : Int))).length = min k xs.length := by
  unfold cutL
  rw [HT.sIx_nat, HT.sIx_none, List.length_take, List.length_drop]
  omega
theorem cut_from_len {α : Type} (xs : List α) (k : Nat) : (cutL xs (some (k : Int)) none).length = xs.length - min k xs.length := by
  unfold cutL
  rw [HT.sIx_nat, HT.sIx_none, List.length_take, List.length_drop]
  omega
theorem cut_mid_len {α : Type} (xs : List α) (k : Nat) : (cutL xs (some (k : Int)) (some ((k : Int) + 1))).length <= 1 := by
  unfold cutL
  rw [show (k : Int) + 1 = ((k + 1 : Nat) : Int) by omega, HT.sIx_nat, HT.sIx_nat, List.length_take, List.length_drop]
  omega
def rtOf6 : St -> Nat
  | [_, _, _, _, some (.int r), _] => r.toNat
  | _ => 0
section
variable (K : PySem.W.Frag) (cls : Nat -> Addr) (ks : List Nat)
structure BkAt (H : Hp) (x b c : Addr) (as : List Addr) (rs : List (List Int × Int)) (bk : List Int) (g : Gnd) : Prop where
  hand : GAt cls ks H x g
  rows : H b = some (.lst (as.map V.ref))
  at_ : RowsAt K H as rs
  few : rs.length <= 8
  book : H c = some (.lst (bk.map V.int))
  len : bk.length <= 60
  ok : g.Ok
  fit : ∀ r ∈ rs, Fit g r
  err : g.err <= 30
def plV : Option Nat -> V
  | none => .non
  | some i => .int i
def spFW : Sp := fun vs H Q _ => ∃ (x b c : Addr) (as : List Addr) (rs : List (List Int × Int)) (bk : List Int) (g : Gnd), vs = [.ref x, .ref b, .ref c] /\ BkAt K cls ks H x b c as rs bk g /\ ∀ g' p H', Kp [x] H H' -> GAt cls ks H' x g' -> Ends rs g bk g' p -> Q (plV p) H'
def spReplay (wb : Addr) : Sp := fun vs H Q E => ∃ (x b c : Addr) (as : List Addr) (rs : List (List Int × Int)) (bk : List Int) (g : Gnd), vs = [.ref x, .ref b, .ref c] /\ BkAt K cls ks H x b c as rs bk g /\ (∀ g' H', Kp [x] H H' -> GAt cls ks H' x g' -> Ends rs g bk g' none -> Q (.int bk.length) H') /\
  ∀ g' i d H', Kp [x] H H' -> GAt cls ks H' x g' -> Ends rs g bk g' (some i) -> H' d = some (.xd [("place", .int (i : Nat))]) -> E (.ref wb) (some d) H'
def spWk : Sp := fun vs H Q _ => ∃ (x b : Addr) (as : List Addr) (rs : List (List Int × Int)) (g : Gnd), vs = [.ref x, .ref b, .int 40] /\ GAt cls ks H x g /\ H b = some (.lst (as.map V.ref)) /\ RowsAt K H as rs /\ rs.length <= 8 /\ g.Ok /\ (∀ r ∈ rs, Fit g r) /\ g.err <= 30 /\
  ∀ c t H', Kp [x] H H' -> H c = none -> GAt cls ks H' x (vis rs g t).1 -> H' c = some (.lst (numsV (vis rs g t).2)) -> (vis rs g t).2.length <= 40 -> Q (.ref c) H'
def spSpoil : Sp := fun vs H Q _ => ∃ (c b : Addr) (bk : List Int) (xs : List V) (n : Int), vs = [.ref c, .ref b, .int n] /\ H c = some (.lst (bk.map V.int)) /\ bk.length <= 40 /\ H b = some (.lst xs) /\ xs.length <= 8 /\ 0 <= n /\
  ∀ r (bk' : List Int) H', Same H H' -> H r = none -> H' r = some (.lst (bk'.map V.int)) -> bk'.length <= 41 -> Q (.ref r) H'
def spWB (wb : Addr) : Sp := fun vs H Q _ => ∃ (e d : Addr) (i : Int), vs = [.ref e, .int i] /\ H e = some (excD wb e (some d)) /\ H d = some (.xd [("place", .int i)]) /\ Q (.bl true) H
def spRepl : Sp := fun vs H Q _ => ∃ (x y b c : Addr) (as : List Addr) (rs : List (List Int × Int)) (bk : List Int) (g : Gnd), vs = [.ref x, .ref y, .ref b, .ref c] /\ x ≠ y /\ BkAt K cls ks H x b c as rs bk g /\ GAt cls ks H y g /\
  ∀ g' p H', Kp [x, y] H H' -> GAt cls ks H' x g' -> Ends rs g bk g' p -> Q (.bl true) H'
end
end Mw
namespace Mw
open PySem L2
section
variable {P : Program} {w : World} {K : PySem.W.Frag} {mg : Str -> Option Value} {base : Heap} {f : Addr} {fd : FuncData} {cls : Nat -> Addr} {ks : List Nat} {np ns nf tc hC tm wb : Addr} {C_Hand C_PlainHand C_MarginHand C_HalvingHand C_SidesHand X_MendError X_NoFraction X_NoPoint X_NoSide X_NoRow X_NoTable X_NoText X_NotParted X_OneSide X_TooMany X_WrongBook T_code T_tab : Addr}
theorem sc_shared_factor : FnScope ["one", "other", "larger", "smaller", "rest"] ["one", "other"] (defScope (top 14)) := ⟨rfl, rfl, rfl, by decide +kernel, rfl, by decide +kernel, by decide +kernel⟩
theorem ok_shared_factor (F : Fun K "shared_factor" "shared_factor" (top 14) f fd) (T : Txt BN mg) : FnOk P w K mg base CX0 1 f fd ["one", "other"] spGcd := by
  refine F.ok sc_shared_factor (fun vs H Q E h => ?_) (fun cdv A outer s H vs Q E hr h => ?_)
  · obtain ⟨a, b, rfl, _⟩ := h
    rfl
  obtain ⟨a, b, rfl, q⟩ := h
  refine ⟨_, (pss_cons (ps_set (i := 2) sc_shared_factor.nd rfl (Or.inl rfl) (pe_callB call_abs rfl (T.nb "abs" (by decide)) (by decide +kernel) (pa_cons (pv 0) pa_nil)))
      (pss_cons (ps_set (i := 3) sc_shared_factor.nd rfl (Or.inl rfl) (pe_callB call_abs rfl (T.nb "abs" (by decide)) (by decide +kernel) (pa_cons (pv 1) pa_nil)))
      (pss_cons (ps_while PassesOwn.never (pt_cmpR op_ne (pv 3) pe_int (nomark _)) (pss_cons (ps_set (i := 4) sc_shared_factor.nd rfl (Or.inl rfl) (pe_op op_mod (pv 2) (pv 3)))
      (pss_cons (ps_set (i := 2) sc_shared_factor.nd rfl (Or.inl rfl) (pv 3))
      (pss_one (ps_set (i := 3) sc_shared_factor.nd rfl (Or.inl rfl) (pv 4))))))
      (pss_one (ps_ret (pv 2)))))), ?_⟩
  refine ⟨_, rfl, a, rfl, _, rfl, b, rfl, ?_⟩
  rw [iabs, iabs]
  refine while_by (fun σ H' => ∃ (x y : Int) (r : Option V), σ = [some (.int a), some (.int b), some (.int x), some (.int y), r] /\ H' = H /\ 0 <= x /\ 0 <= y /\ Int.gcd x y = Int.gcd a b)
    (fun σ _ => match σ with | [_, _, _, some (.int y), _] => y.natAbs | _ => 0) ⟨_, _, none, rfl, rfl, Int.natCast_nonneg _, Int.natCast_nonneg _, gcd_abs a b⟩ ?_ (fun σ H Q Q' m ⟨v, e, h1, k, ek, q⟩ => ⟨v, e, h1, k, ek, m _ _ q⟩)
  rintro σ H2 ⟨x, y, r, rfl, rfl, hx, hy, hg⟩
  refine ⟨_, rfl, rfl, _, rfl, ?_⟩
  by_cases hy0 : y = 0
  · refine iteNS (by rw [hy0]) ?_
    refine ⟨_, rfl, ?_⟩
    have e : x = (Int.gcd a b : Int) := by rw [<- hg, hy0]; exact (gcd_end hx).symm
    show Q (.int x) H2
    rw [e]
    exact q
  · refine iteN (fun z => hy0 (by injection z)) ?_
    have hyp : 0 < y := by omega
    have hlt : x % y < y := Int.emod_lt_of_pos x hyp
    have hge : 0 <= x % y := Int.emod_nonneg x hy0
    refine ⟨_, rfl, _, rfl, x, y, rfl, rfl, hyp, _, rfl, _, rfl, ⟨y, x % y, _, rfl, rfl, hy, hge, ?_⟩, ?_⟩
    · rw [<- hg]; exact gcd_turn hx hy
    · show (x % y).natAbs < y.natAbs
      omega
end
end Mw
namespace Mw
open PySem L2
section
variable {P : Program} {w : World} {K : PySem.W.Frag} {mg : Str -> Option Value} {base : Heap} {f : Addr} {fd : FuncData} {cls : Nat -> Addr} {ks : List Nat} {np ns nf tc hC tm wb : Addr} {C_Hand C_PlainHand C_MarginHand C_HalvingHand C_SidesHand X_MendError X_NoFraction X_NoPoint X_NoSide X_NoRow X_NoTable X_NoText X_NotParted X_OneSide X_TooMany X_WrongBook T_code T_tab : Addr}
theorem sc_part : FnScope ["top", "bottom", "factor"] ["top", "bottom"] (defScope (top 15)) := ⟨rfl, rfl, rfl, by decide +kernel, rfl, by decide +kernel, by decide +kernel⟩
theorem ok_part {nf : Addr} (F : Fun K "part" "part" (top 15) f fd) (T : Txt BN mg) (X_NoFraction : ExR K mg "NoFraction" nf) (c_shared_factor : Cal P w K mg base 1 "shared_factor" ["one", "other"] spGcd) : FnOk P w K mg base (CXE P w) 2 f fd ["top", "bottom"] (spPart nf) := by
  refine F.okX sc_part (fun vs H Q E h => ?_) (fun cdv A outer s H vs Q E hr h => ?_)
  · obtain ⟨t, b, rfl, _⟩ := h
    rfl
  obtain ⟨t, b, rfl, ht, hb, h0, h1⟩ := h
  refine ⟨_, (pss_cons (ps_if (pt_cmpR op_eq (pv 1) pe_int (nomark _)) (pss_one (ps_raise rfl X_NoFraction.c rfl X_NoFraction.g raiseG_out (pa_cons pe_str pa_nil))) pss_nil)
      (pss_cons (ps_set (i := 2) sc_part.nd rfl (Or.inl rfl) (pe_cal c_shared_factor (hr.mono (by decide)) rfl (pa_cons (pv 0) (pa_cons (pv 1) pa_nil))))
      (pss_cons (ps_join (ps_if (pt_cmpR op_lt (pv 1) pe_int (nomark _)) (pss_one (ps_set (i := 2) sc_part.nd rfl (Or.inl rfl) (pe_un un_neg (pv 2)))) pss_nil))
      (pss_one (ps_ret (pe_tup (pa_cons (pe_op op_fdivB (pv 0) (pv 2)) (pa_cons (pe_op op_fdivB (pv 1) (pv 2)) pa_nil)))))))), ?_⟩
  refine ⟨_, rfl, rfl, _, rfl, ?_⟩
  refine iteD (fun z => ?_) (fun z => ?_)
  · have e : b = 0 := by injection z
    exact ⟨(by show 1 <= sizeLine; decide), h0 e⟩
  · have e : b ≠ 0 := fun y => z (by rw [y])
    refine ⟨_, rfl, _, rfl, t, b, rfl, ?_⟩
    refine ⟨fun σ H' => σ = [some (.int t), some (.int b), some (.int (fac t b))] /\ H' = H, ?_, ?_⟩
    · refine ⟨_, rfl, _, _, rfl, rfl, _, rfl, ?_⟩
      unfold fac
      refine iteD (fun hlt => ?_) (fun hge => ?_)
      · refine ⟨_, rfl, _, rfl, ?_, rfl⟩
        rw [if_pos hlt]; rfl
      · refine ⟨?_, rfl⟩
        rw [if_neg hge]; rfl
    · rintro σ H' ⟨rfl, rfl⟩
      have hfb : Bits 9000 (fac t b) := by
        refine Bits.mono (n := 3000) ?_ (by decide)
        show (fac t b).natAbs < 2 ^ 3000
        rw [fac_abs]
        exact Nat.lt_of_le_of_lt (gcd_le_right e) hb
      refine ⟨_, rfl, _, rfl, _, _, rfl, rfl, ⟨fac_ne e, hfb⟩, _, rfl, _, rfl, _, _, rfl, rfl, ⟨fac_ne e, hfb⟩, (by show 2 <= sizeLine; decide), fun p hp => ?_⟩
      show Q (.ref p) (upd H' p (.tup [.int (t.fdiv (fac t b)), .int (b.fdiv (fac t b))]))
      rw [ptop_fdiv, pbot_fdiv]
      exact h1 e p hp
end
end Mw
namespace Mw
open PySem L2
section
variable {P : Program} {w : World} {K : PySem.W.Frag} {mg : Str -> Option Value} {base : Heap} {f : Addr} {fd : FuncData} {cls : Nat -> Addr} {ks : List Nat} {np ns nf tc hC tm wb : Addr} {C_Hand C_PlainHand C_MarginHand C_HalvingHand C_SidesHand X_MendError X_NoFraction X_NoPoint X_NoSide X_NoRow X_NoTable X_NoText X_NotParted X_OneSide X_TooMany X_WrongBook T_code T_tab : Addr}
theorem sc_by : FnScope ["one", "other"] ["one", "other"] (defScope (top 16)) := ⟨rfl, rfl, rfl, by decide +kernel, rfl, by decide +kernel, by decide +kernel⟩
theorem ok_by {nf : Addr} (F : Fun K "by" "by" (top 16) f fd) (T : Txt BN mg) (c_part : CalX P w K mg base 2 "part" ["top", "bottom"] (spPart nf)) : FnOk P w K mg base (CXE P w) 3 f fd ["one", "other"] (spFrac K nf topMul botMul) := by
  refine F.okX sc_by (fun vs H Q E h => ?_) (fun cdv A outer s H vs Q E hr h => ?_)
  · obtain ⟨a, c, t1, b1, t2, b2, rfl, _⟩ := h
    rfl
  obtain ⟨a, c, t1, b1, t2, b2, rfl, hA, hC, h1, h2, h3, h4, h5, h6⟩ := h
  refine ⟨_, (pss_one (ps_ret (pe_calG c_part (hr.mono (by decide)) rfl passG_out (pa_cons (pe_op op_mulB (pe_ix (ix_tupK (K := K) rfl) (pv 0) pe_int (fun _ _ => rfl)) (pe_ix (ix_tupK (K := K) rfl) (pv 1) pe_int (fun _ _ => rfl))) (pa_cons (pe_op op_mulB (pe_ix (ix_tupK (K := K) rfl) (pv 0) pe_int (fun _ _ => rfl)) (pe_ix (ix_tupK (K := K) rfl) (pv 1) pe_int (fun _ _ => rfl))) pa_nil))))), ?_⟩
  refine ⟨_, rfl, a, _, _, _, rfl, rfl, hA, at0 _ _, _, rfl, c, _, _, _, rfl, rfl, hC, at0 _ _, _, _, rfl, rfl, ⟨1000, by decide, h1, h3⟩, _, rfl, a, _, _, _, rfl, rfl, hA, at1 _ _, _, rfl, c, _, _, _, rfl, rfl, hC, at1 _ _, _, _, rfl, rfl, ⟨1000, by decide, h2, h4⟩, topMul t1 b1 t2 b2, botMul t1 b1 t2 b2, rfl, (h1.mul h3).mono (by decide), (h2.mul h4).mono (by decide), h5, h6⟩
end
end Mw
namespace Mw
open PySem L2
section
variable {P : Program} {w : World} {K : PySem.W.Frag} {mg : Str -> Option Value} {base : Heap} {f : Addr} {fd : FuncData} {cls : Nat -> Addr} {ks : List Nat} {np ns nf tc hC tm wb : Addr} {C_Hand C_PlainHand C_MarginHand C_HalvingHand C_SidesHand X_MendError X_NoFraction X_NoPoint X_NoSide X_NoRow X_NoTable X_NoText X_NotParted X_OneSide X_TooMany X_WrongBook T_code T_tab : Addr}
theorem sc_product : FnScope ["one", "other"] ["one", "other"] (defScope (top 18)) := ⟨rfl, rfl, rfl, by decide +kernel, rfl, by decide +kernel, by decide +kernel⟩
theorem ok_product (F : Fun K "product" "product" (top 18) f fd) (T : Txt BN mg) : FnOk P w K mg base CX0 1 f fd ["one", "other"] (spProd K) := by
  refine F.ok sc_product (fun vs H Q E h => ?_) (fun cdv A outer s H vs Q E hr h => ?_)
  · obtain ⟨a, b, b1, b2, xs, ys, rfl, _⟩ := h
    rfl
  obtain ⟨a, b, b1, b2, xs, ys, rfl, hA, hB, hl, hx, hy, q⟩ := h
  refine ⟨_, (pss_one (ps_ret (pe_callB (call_sumI rfl) rfl (T.nb "sum" (by decide)) (by decide +kernel) (pa_cons (pe_comp (sc := defScope (top 18)) (N := ["one", "other"]) (NB := ["first", "second"]) (fr := [none, none]) rfl (by decide +kernel) (pi_zip rfl (T.nb "zip" (by decide)) (pa_cons (pv 0) (pa_cons (pv 1) pa_nil))) (fun _ _ _ _ => (pg_tupK (K := K) (n := 2) rfl rfl (pgs_cons (pg_name (i := 0) (show (["first", "second"] : List Str).Nodup by decide +kernel) rfl (Or.inl rfl)) (pgs_cons (pg_name (i := 1) (show (["first", "second"] : List Str).Nodup by decide +kernel) rfl (Or.inl rfl)) pgs_nil)))) (fun _ _ _ _ => .nil) (fun _ _ _ _ => (pe_op op_mulB (pv 0) (pv 1)))) pa_nil)))), ?_⟩
  refine ⟨_, rfl, _, rfl, b1, b2, a, b, rfl, ⟨_, hA⟩, ⟨_, hB⟩, fun D hD => ?_⟩
  refine comp_zip (us := xs.map V.int) (vs := ys.map V.int) (fun i zs H' => zs = (((List.zipWith (· * ·) xs ys).take i).map V.int) /\ Same H H' /\ H' D = some (.lst zs)) ⟨by simp, Same.new hD _, upd_same⟩
    (fun i zs H' hi ⟨e1, _, e3⟩ => ⟨e3, by rw [e1, List.length_map, List.length_take]; omega⟩) (fun i zs H' _ ⟨_, e2, _⟩ => ⟨e2.seqB hA, e2.seqB hB⟩) (by rw [List.length_map]; exact Nat.le_of_lt (small1000 hl)) ?_ ?_
  · rintro i x y T0 zs H' hx0 hy0 hT0 ⟨e1, e2, e3⟩
    obtain ⟨x1, hx1, rfl⟩ := of_map hx0
    obtain ⟨y1, hy1, rfl⟩ := of_map hy0
    have hTD : D ≠ T0 := ne_of_none e3 hT0
    refine ⟨T0, _, rfl, SqT.of upd_same, rfl, _, _, rfl, _, _, rfl, rfl, wk_none (n := 2) rfl, ?_⟩
    refine tYes_then ?_
    refine ⟨_, rfl, _, rfl, _, _, rfl, rfl, ⟨1000, by decide, hx x1 (List.mem_of_getElem? hx1), hy y1 (List.mem_of_getElem? hy1)⟩, by rw [upd_ne hTD]; exact e3, ?_, (e2.trans (Same.new hT0 _)).upd_old hD, upd_same⟩
    rw [take_snoc (zip_get hx1 hy1), List.map_append, e1]; rfl
  · rintro zs H' ⟨e1, e2, e3⟩
    refine ⟨D, List.zipWith (· * ·) xs ys, rfl, .inl (.inl ?_), q H' e2⟩
    rw [e3, e1, List.take_of_length_le (by rw [List.length_zipWith, List.length_map, List.length_map]; exact Nat.le_refl _)]
end
end Mw
namespace Mw
open PySem L2
section
variable {P : Program} {w : World} {K : PySem.W.Frag} {mg : Str -> Option Value} {base : Heap} {f : Addr} {fd : FuncData} {cls : Nat -> Addr} {ks : List Nat} {np ns nf tc hC tm wb : Addr} {C_Hand C_PlainHand C_MarginHand C_HalvingHand C_SidesHand X_MendError X_NoFraction X_NoPoint X_NoSide X_NoRow X_NoTable X_NoText X_NotParted X_OneSide X_TooMany X_WrongBook T_code T_tab : Addr}
theorem sc_lifted : FnScope ["point"] ["point"] (defScope (top 19)) := ⟨rfl, rfl, rfl, by decide +kernel, rfl, by decide +kernel, by decide +kernel⟩
theorem ok_lifted (F : Fun K "lifted" "lifted" (top 19) f fd) (T : Txt BN mg) : FnOk P w K mg base CX0 1 f fd ["point"] (spLift K) := by
  refine F.ok sc_lifted (fun vs H Q E h => ?_) (fun cdv A outer s H vs Q E hr h => ?_)
  · obtain ⟨a, xs, rfl, _⟩ := h
    rfl
  obtain ⟨a, xs, rfl, hA, hne, hl, q⟩ := h
  refine ⟨_, (pss_one (ps_ret (pe_op (op_catTK (K := K) rfl) (pv 0) (pe_tup (pa_cons pe_int pa_nil))))), ?_⟩
  refine ⟨_, rfl, (by show 1 <= sizeLine; decide), fun p hp => ?_⟩
  have s1 := Same.new hp (.tup [.int 1])
  refine ⟨a, p, _, _, rfl, rfl, s1.seqT hA, SqT.of upd_same, ?_, ?_, fun z => (nomatch z), fun _ r hr0 => ?_⟩
  · intro z; exact hne (List.map_eq_nil_iff.mp z)
  · rw [List.length_map]; exact Nat.le_of_lt (small1000 (by show xs.length + 1 <= 1000; omega))
  · refine q r _ (s1.trans (Same.new hr0 _)) (s1.free hr0) ?_
    rw [upd_same, List.map_append]; rfl
end
end Mw
namespace Mw
open PySem L2
section
variable {P : Program} {w : World} {K : PySem.W.Frag} {mg : Str -> Option Value} {base : Heap} {f : Addr} {fd : FuncData} {cls : Nat -> Addr} {ks : List Nat} {np ns nf tc hC tm wb : Addr} {C_Hand C_PlainHand C_MarginHand C_HalvingHand C_SidesHand X_MendError X_NoFraction X_NoPoint X_NoSide X_NoRow X_NoTable X_NoText X_NotParted X_OneSide X_TooMany X_WrongBook T_code T_tab : Addr}
theorem sc_told_by : FnScope ["weights", "point"] ["weights", "point"] (defScope (top 20)) := ⟨rfl, rfl, rfl, by decide +kernel, rfl, by decide +kernel, by decide +kernel⟩
theorem ok_told_by (F : Fun K "told_by" "told_by" (top 20) f fd) (T : Txt BN mg) (c_product : Cal P w K mg base 1 "product" ["one", "other"] (spProd K)) (c_lifted : Cal P w K mg base 1 "lifted" ["point"] (spLift K)) : FnOk P w K mg base CX0 2 f fd ["weights", "point"] (spTold K) := by
  refine F.ok sc_told_by (fun vs H Q E h => ?_) (fun cdv A outer s H vs Q E hr h => ?_)
  · obtain ⟨a, b, b1, ws, xs, rfl, _⟩ := h
    rfl
  obtain ⟨a, b, b1, ws, xs, rfl, hA, hB, hne, hl, hl2, hw, hx, q⟩ := h
  refine ⟨_, (pss_one (ps_ret (pe_cal c_product (hr.mono (by decide)) rfl (pa_cons (pv 0) (pa_cons (pe_cal c_lifted (hr.mono (by decide)) rfl (pa_cons (pv 1) pa_nil)) pa_nil))))), ?_⟩
  refine ⟨_, rfl, _, rfl, b, xs, rfl, hB, hne, hl, fun r H1 s1 hr0 hR => ?_⟩
  exact ⟨a, r, b1, true, ws, xs ++ [1], rfl, s1.seqB hA, SqT.of hR, hl2, hw, bits_snoc (by decide) hx, fun H2 s2 => q H2 (s1.trans s2)⟩
end
end Mw
namespace Mw
open PySem L2
section
variable {P : Program} {w : World} {K : PySem.W.Frag} {mg : Str -> Option Value} {base : Heap} {f : Addr} {fd : FuncData} {cls : Nat -> Addr} {ks : List Nat} {np ns nf tc hC tm wb : Addr} {C_Hand C_PlainHand C_MarginHand C_HalvingHand C_SidesHand X_MendError X_NoFraction X_NoPoint X_NoSide X_NoRow X_NoTable X_NoText X_NotParted X_OneSide X_TooMany X_WrongBook T_code T_tab : Addr}
theorem sc_turned : FnScope ["number", "side"] ["number", "side"] (defScope (top 21)) := ⟨rfl, rfl, rfl, by decide +kernel, rfl, by decide +kernel, by decide +kernel⟩
theorem ok_turned (F : Fun K "turned" "turned" (top 21) f fd) (T : Txt BN mg) : FnOk P w K mg base CX0 1 f fd ["number", "side"] spTurned := by
  refine F.ok sc_turned (fun vs H Q E h => ?_) (fun cdv A outer s H vs Q E hr h => ?_)
  · obtain ⟨n, s, rfl, _⟩ := h
    rfl
  obtain ⟨n, sd, rfl, q⟩ := h
  refine ⟨_, (pss_one (ps_ret (pe_ifExp (pt_cmpR op_eq (pv 1) pe_int (nomark _)) (pv 0) (pe_un un_neg (pv 0))))), ?_⟩
  refine ⟨_, rfl, rfl, _, rfl, ?_⟩
  refine iteD (fun z => ?_) (fun z => ?_)
  · have e : sd = 1 := by injection z
    unfold turnF at q
    rw [if_pos e] at q
    exact ⟨_, rfl, q⟩
  · have e : ¬ sd = 1 := fun y => z (by rw [y])
    unfold turnF at q
    rw [if_neg e] at q
    exact ⟨_, rfl, _, rfl, q⟩
end
end Mw
namespace Mw
open PySem L2
section
variable {P : Program} {w : World} {K : PySem.W.Frag} {mg : Str -> Option Value} {base : Heap} {f : Addr} {fd : FuncData} {cls : Nat -> Addr} {ks : List Nat} {np ns nf tc hC tm wb : Addr} {C_Hand C_PlainHand C_MarginHand C_HalvingHand C_SidesHand X_MendError X_NoFraction X_NoPoint X_NoSide X_NoRow X_NoTable X_NoText X_NotParted X_OneSide X_TooMany X_WrongBook T_code T_tab : Addr}
theorem sc_replay : FnScope ["hand", "rows", "book", "place", "number", "row"] ["hand", "rows", "book"] (defScope (top 23)) := ⟨rfl, rfl, rfl, by decide +kernel, rfl, by decide +kernel, by decide +kernel⟩
theorem ok_replay (F : Fun K "replay" "replay" (top 23) f fd) (T : Txt BN mg) (gm_put : MCal P w K mg base 20 (Kds cls ks) "put" ["self", "point", "side"] (spPutG K cls ks np ns)) (gm_wrong : XCal P w K mg base 2 "WrongBook" wb "place") : FnOk P w K mg base (CXE P w) 21 f fd ["hand", "rows", "book"] (spReplay K cls ks wb) := by
  refine F.okX sc_replay (fun vs H Q E h => ?_) (fun cdv A outer s H vs Q E hr h => ?_)
  · obtain ⟨a, b, c, as, rs, bk, g, rfl, _⟩ := h
    rfl
  obtain ⟨a, b, c, as, rs, bk, g, rfl, hB, q, hE⟩ := h
  refine ⟨_, (pss_cons (ps_for PassesOwn.leaving rfl (pi_enum rfl (T.nb "enumerate" (by decide)) (pa_cons (pv 2) pa_nil)) (pg_tupK (K := K) (n := 2) rfl rfl (pgs_cons (pg_name (i := 3) sc_replay.nd rfl (Or.inl rfl)) (pgs_cons (pg_name (i := 4) sc_replay.nd rfl (Or.inl rfl)) pgs_nil))) (pss_cons (ps_if (pt_not (pt_chain op_le op_lt pe_int (pv 4) (pe_callB (call_lenK (K := K) rfl) rfl (T.nb "len" (by decide)) (by decide +kernel) (pa_cons (pv 1) pa_nil)))) (pss_one (ps_raiseI rfl gm_wrong (hr.mono (by decide)) rfl raiseD_out (pa_cons (pv 3) pa_nil))) pss_nil)
      (pss_cons (ps_set (i := 5) sc_replay.nd rfl (Or.inl rfl) (pe_ix (ix_listK (K := K) rfl) (pv 1) (pv 4) (fun _ _ => rfl)))
      (pss_one (ps_if (pt_not (pt_val (pe_methG (pv 0) gm_put (hr.mono (by decide)) passG_out (pa_cons (pe_ix (ix_tupK (K := K) rfl) (pv 5) pe_int (fun _ _ => rfl)) (pa_cons (pe_ix (ix_tupK (K := K) rfl) (pv 5) pe_int (fun _ _ => rfl)) pa_nil))))) (pss_one (ps_raiseI rfl gm_wrong (hr.mono (by decide)) rfl raiseD_out (pa_cons (pv 3) pa_nil))) pss_nil)))))
      (pss_one (ps_ret (pe_callB (call_lenK (K := K) rfl) rfl (T.nb "len" (by decide)) (by decide +kernel) (pa_cons (pv 2) pa_nil))))), ?_⟩
  have hal : as.length = rs.length := Paired.length hB.at_
  have hbl := hB.len
  have hge := hB.err
  refine ⟨_, rfl, c, rfl, ⟨_, SqL.of hB.book⟩, ?_⟩
  refine for_enum (xs := bk.map V.int) (fun i σ H' => ∃ (v3 v4 v5 : Option V) (g' : Gnd), σ = [some (.ref a), some (.ref b), some (.ref c), v3, v4, v5] /\ Kp [a] H H' /\ goes rs g bk i = some g' /\ GAt cls ks H' a g')
    ⟨none, none, none, g, rfl, Kp.refl, rfl, hB.hand⟩
    (fun i σ H' _ ⟨_, _, _, _, _, kp, _⟩ => SqL.of (kp.lst hB.book)) ?_ ?_
  · rintro i x T0 σ H' hx hT0 ⟨v3, v4, v5, g', rfl, kp, hg, hA'⟩
    obtain ⟨n, hn, rfl⟩ := of_map hx
    have hil : i < bk.length := (List.getElem?_eq_some_iff.mp hn).1
    have sT := Same.new hT0 (.tup [.int (i : Nat), .int n])
    have hAT := hA'.same sT
    have kpT : Kp [a] H (upd H' T0 (.tup [.int (i : Nat), .int n])) := kp.trans (Kp.of sT)
    have hTT : upd H' T0 (.tup [.int (i : Nat), .int n]) T0 = some (.tup [.int (i : Nat), .int n]) := upd_same
    generalize upd H' T0 (.tup [.int (i : Nat), .int n]) = HT at *
    have hBT := kpT.lst hB.rows
    have hRT := kpT.rows hB.at_
    obtain ⟨hok, hfit, herr⟩ := goes_ok hB.ok hB.fit hg
    have hsm : g'.Small 0 := Gnd.small_of (by omega)
    have stop : goes rs g bk (i + 1) = none -> ∀ H2, Kp [a] H H2 -> GAt cls ks H2 a g' -> ∀ d, H2 d = none -> E (.ref wb) (some d) (upd H2 d (.xd [("place", .int (i : Nat))])) := fun hz H2 k2 hA2 d hd => by
      have s9 := Same.new hd (.xd [("place", .int (i : Nat))])
      exact hE g' i d _ (k2.trans (Kp.of s9)) (hA2.same s9) (.at hil hg hz) upd_same
    refine ⟨T0, _, rfl, SqT.of hTT, rfl, _, _, rfl, _, _, rfl, rfl, ?_⟩
    refine ⟨_, rfl, _, _, rfl, rfl, _, rfl, ?_⟩
    refine iteD (fun z0 => ?_) (fun z0 => ?_)
    rotate_left
    · refine ⟨_, rfl, iteT ?_⟩
      exact ⟨_, rfl, _, rfl, stop (goes_out hn fun w => z0 w.1) HT kpT hAT⟩
    refine ⟨_, rfl, b, _, rfl, .inl (SqL.of hBT), _, _, rfl, rfl, _, rfl, ?_⟩
    have hlm : ((as.map V.ref).length : Int) = (rs.length : Int) := by rw [List.length_map, hal]
    refine iteND (fun z1 => ?_) (fun z1 => ?_)
    · exact ⟨_, rfl, _, rfl, stop (goes_out hn fun w => z1 (by show n < ((as.map V.ref).length : Int); omega)) HT kpT hAT⟩
    have z1' : n < (rs.length : Int) := by have : n < ((as.map V.ref).length : Int) := z1; omega
    have z0' : 0 <= n := z0
    obtain ⟨m, rfl⟩ : ∃ m : Nat, n = (m : Int) := ⟨n.toNat, by omega⟩
    have hna : m < as.length := by omega
    obtain ⟨r, hr1, p, hr2, hr3⟩ := paired_get hRT (List.getElem?_eq_getElem hna)
    have hat : atI (as.map V.ref) (m : Int) = some (.ref as[m]) := atI_nat (by rw [List.getElem?_map, List.getElem?_eq_getElem hna]; rfl)
    obtain ⟨C, dx, fs, hi, hk, hno⟩ := hAT.ins
    have hf := hfit r (List.mem_of_getElem? hr1)
    refine ⟨_, rfl, _, rfl, b, _, _, _, rfl, rfl, SqL.of hBT, hat, ?_⟩
    refine ⟨_, rfl, a, C, dx, fs, rfl, hi, hk, hno _ (by decide +kernel), _, rfl, as[m], _, _, _, rfl, rfl, hr2, rfl, _, rfl, as[m], _, _, _, rfl, rfl, hr2, rfl, ⟨_, _, hi⟩, a, p, g', r.1, r.2, rfl, hAT, hok, hsm, hr3, fun z => absurd (Gnd.pt_len hf.1) z, fun _ z => (by rw [hf.2] at z; cases z), fun _ _ => ⟨hf.1, fun H3 k3 hA3 => ?_⟩⟩
    refine ⟨_, rfl, ?_⟩
    cases hw : g'.wrong r.1 r.2 with
    | true =>
      refine iteF ?_
      exact ⟨_, _, _, g'.step r.1 r.2, rfl, kpT.trans k3, goes_step hg hn z0' (by rw [Int.toNat_natCast]; exact hr1) hw, hA3⟩
    | false =>
      refine iteT ?_
      have es : g'.step r.1 r.2 = g' := by rw [Gnd.step_eq, if_neg (by rw [hw]; decide)]
      rw [es] at hA3
      exact ⟨_, rfl, _, rfl, stop (goes_right hg hn z0' (by rw [Int.toNat_natCast]; exact hr1) hw) H3 (kpT.trans k3) hA3⟩
  · rintro σ H' ⟨v3, v4, v5, g', rfl, kp, hg, hA'⟩
    rw [List.length_map] at hg
    have := q g' H' kp hA' (.all hg)
    exact ⟨_, rfl, c, _, rfl, .inl (SqL.of (kp.lst hB.book)), by rw [List.length_map]; exact this⟩
end
end Mw
namespace Mw
open PySem L2
section
variable {P : Program} {w : World} {K : PySem.W.Frag} {mg : Str -> Option Value} {base : Heap} {f : Addr} {fd : FuncData} {cls : Nat -> Addr} {ks : List Nat} {np ns nf tc hC tm wb : Addr} {C_Hand C_PlainHand C_MarginHand C_HalvingHand C_SidesHand X_MendError X_NoFraction X_NoPoint X_NoSide X_NoRow X_NoTable X_NoText X_NotParted X_OneSide X_TooMany X_WrongBook T_code T_tab : Addr}
theorem sc_moved : FnScope ["weights", "point", "times"] ["weights", "point", "times"] (defScope (top 25)) := ⟨rfl, rfl, rfl, by decide +kernel, rfl, by decide +kernel, by decide +kernel⟩
theorem ok_moved (F : Fun K "moved" "moved" (top 25) f fd) (T : Txt BN mg) (c_lifted : Cal P w K mg base 1 "lifted" ["point"] (spLift K)) : FnOk P w K mg base CX0 2 f fd ["weights", "point", "times"] (spMv K) := by
  refine F.ok sc_moved (fun vs H Q E h => ?_) (fun cdv A outer s H vs Q E hr h => ?_)
  · obtain ⟨a, b, ws, xs, c, rfl, _⟩ := h
    rfl
  obtain ⟨a, b, ws, xs, c, rfl, hA, hB, hne, hl, hw, hc, hlow0, q⟩ := h
  refine ⟨_, (pss_one (ps_ret (pe_callTy (call_tupleK (K := K) rfl) rfl (T.nb "tuple" (by decide)) (by decide +kernel) (pa_cons (pe_comp (sc := defScope (top 25)) (N := ["weights", "point", "times"]) (NB := ["weight", "number", "times"]) (fr := [none, none, some 2]) rfl (by decide +kernel) (pi_zip rfl (T.nb "zip" (by decide)) (pa_cons (pv 0) (pa_cons (pe_cal c_lifted (hr.mono (by decide)) rfl (pa_cons (pv 1) pa_nil)) pa_nil))) (fun _ _ _ _ => (pg_tupK (K := K) (n := 2) rfl rfl (pgs_cons (pg_name (i := 0) (show (["weight", "number", "times"] : List Str).Nodup by decide +kernel) rfl (Or.inl rfl)) (pgs_cons (pg_name (i := 1) (show (["weight", "number", "times"] : List Str).Nodup by decide +kernel) rfl (Or.inl rfl)) pgs_nil)))) (fun _ _ _ _ => .nil) (fun _ _ _ _ => (pe_op op_add (pv 0) (pe_op op_mulB (pv 2) (pv 1))))) pa_nil)))), ?_⟩
  have hlow := Hnd.low_snoc hlow0
  refine ⟨_, rfl, _, rfl, b, xs, rfl, hB, hne, hl, fun r H2 s2 hr2 hR => ?_⟩
  refine ⟨true, true, a, r, rfl, ⟨_, s2.seqT hA⟩, ⟨_, SqT.of hR⟩, fun D hD => ?_⟩
  refine comp_zip (us := ws.map V.int) (vs := (xs ++ [1]).map V.int) (fun j zs H' => zs = ((mv c ws (xs ++ [1])).take j).map V.int /\ Same H2 H' /\ H' D = some (.lst zs)) ⟨by simp, Same.new hD _, upd_same⟩
    (fun j zs H' hj ⟨f1, _, f3⟩ => ⟨f3, by rw [f1, List.length_map, List.length_take]; omega⟩) (fun j zs H' _ ⟨_, f2, _⟩ => ⟨f2.seqT (s2.seqT hA), SqT.of (f2 _ _ hR)⟩) (by rw [List.length_map]; exact Nat.le_of_lt (small1000 (by omega))) ?_ ?_
  · rintro j x2 y2 T1 zs H' hx2 hy2 hT1 ⟨f1, f2, f3⟩
    obtain ⟨w1, hw1, rfl⟩ := of_map hx2
    obtain ⟨n1, hn1, rfl⟩ := of_map hy2
    have hTD : D ≠ T1 := ne_of_none f3 hT1
    have hnl := hlow n1 (List.mem_of_getElem? hn1)
    refine ⟨T1, _, rfl, SqT.of upd_same, rfl, _, _, rfl, _, _, rfl, rfl, ⟨rfl, ?_⟩, ?_⟩
    · intro k v ek
      match k, ek with
      | 2, ek => exact ek
      | 0, ek => simp [carry] at ek
      | 1, ek => simp [carry] at ek
      | k + 3, ek => simp [carry] at ek
    refine tYes_then ?_
    refine ⟨_, rfl, _, rfl, _, rfl, _, _, rfl, rfl, mul64 (by rcases hc with rfl | rfl <;> decide) (by rcases hc with rfl | rfl <;> decide) (by omega) (by omega), _, _, rfl, rfl, by rw [upd_ne hTD]; exact f3, ?_, (f2.trans (Same.new hT1 _)).upd_old hD, upd_same⟩
    unfold mv at f1 ⊢
    rw [take_snoc (zipWith_get hw1 hn1), List.map_append, f1]; rfl
  · rintro zs H3 ⟨f1, f2, f3⟩
    have f4 : zs = (mv c ws (xs ++ [1])).map V.int := by
      rw [f1, List.take_of_length_le]
      unfold mv
      rw [List.length_zipWith, List.length_map, List.length_map]; exact Nat.le_refl _
    subst f4
    refine ⟨D, _, rfl, .inl ⟨SqL.of f3, fun t2 ht2 => ?_⟩⟩
    have s3 := s2.trans (f2.trans (Same.new ht2 (.tup ((mv c ws (xs ++ [1])).map V.int))))
    refine q t2 _ s3 ((s2.trans f2).free ht2) upd_same
end
end Mw
namespace Mw
open PySem L2
section
variable {P : Program} {w : World} {K : PySem.W.Frag} {mg : Str -> Option Value} {base : Heap} {f : Addr} {fd : FuncData} {cls : Nat -> Addr} {ks : List Nat} {np ns nf tc hC tm wb : Addr} {C_Hand C_PlainHand C_MarginHand C_HalvingHand C_SidesHand X_MendError X_NoFraction X_NoPoint X_NoSide X_NoRow X_NoTable X_NoText X_NotParted X_OneSide X_TooMany X_WrongBook T_code T_tab : Addr}
theorem sc__law_cell_at : FnScope ["_law_script", "_law_k"] ["_law_script", "_law_k"] (defScope (top 32)) := ⟨rfl, rfl, rfl, by decide +kernel, rfl, by decide +kernel, by decide +kernel⟩
theorem ok__law_cell_at (F : Fun K "_law_cell_at" "_law_cell_at" (top 32) f fd) (T : Txt BN mg) : FnOk P w K mg base CX0 1 f fd ["_law_script", "_law_k"] (spCell K) := by
  refine F.ok sc__law_cell_at (fun vs H Q E h => ?_) (fun cdv A outer s H vs Q E hr h => ?_)
  · obtain ⟨a, ns, k, rfl, _⟩ := h
    rfl
  obtain ⟨a, ns, k, rfl, hA, hk, q⟩ := h
  refine ⟨_, (pss_cons (ps_if (pt_cmpR op_lt (pv 1) (pe_callB (call_lenK (K := K) rfl) rfl (T.nb "len" (by decide)) (by decide +kernel) (pa_cons (pv 0) pa_nil)) (nomark _)) (pss_one (ps_ret (pe_ix (ix_listK (K := K) rfl) (pv 0) (pv 1) (fun _ _ => rfl)))) pss_nil)
      (pss_one (ps_ret pe_int))), ?_⟩
  refine ⟨_, rfl, _, rfl, a, _, rfl, .inl hA, _, _, rfl, rfl, _, rfl, ?_⟩
  refine iteD (fun hlt => ?_) (fun _ => ?_)
  · rw [List.length_map] at hlt
    exact ⟨_, rfl, _, rfl, a, _, _, _, rfl, rfl, hA, at_cell hk hlt, q⟩
  · rename_i hge
    rw [List.length_map] at hge
    rw [cell_out hk hge] at q
    exact q
end
end Mw
namespace Mw
open PySem L2
section
variable {P : Program} {w : World} {K : PySem.W.Frag} {mg : Str -> Option Value} {base : Heap} {f : Addr} {fd : FuncData} {cls : Nat -> Addr} {ks : List Nat} {np ns nf tc hC tm wb : Addr} {C_Hand C_PlainHand C_MarginHand C_HalvingHand C_SidesHand X_MendError X_NoFraction X_NoPoint X_NoSide X_NoRow X_NoTable X_NoText X_NotParted X_OneSide X_TooMany X_WrongBook T_code T_tab : Addr}
theorem sc__law_mixed : FnScope ["_law_script", "_law_k", "_law_cell", "_law_first"] ["_law_script", "_law_k"] (defScope (top 33)) := ⟨rfl, rfl, rfl, by decide +kernel, rfl, by decide +kernel, by decide +kernel⟩
theorem ok__law_mixed (F : Fun K "_law_mixed" "_law_mixed" (top 33) f fd) (T : Txt BN mg) (c__law_cell_at : Cal P w K mg base 1 "_law_cell_at" ["_law_script", "_law_k"] (spCell K)) : FnOk P w K mg base CX0 2 f fd ["_law_script", "_law_k"] (spMixed2 K) := by
  refine F.ok sc__law_mixed (fun vs H Q E h => ?_) (fun cdv A outer s H vs Q E hr h => ?_)
  · obtain ⟨a, ns, k, rfl, _⟩ := h
    rfl
  obtain ⟨a, ns, k, rfl, hA, h0, h1, q⟩ := h
  refine ⟨_, (pss_cons (ps_set (i := 2) sc__law_mixed.nd rfl (Or.inl rfl) (pe_op op_mod (pe_cal c__law_cell_at (hr.mono (by decide)) rfl (pa_cons (pv 0) (pa_cons (pe_op op_add pe_int (pe_op op_mod (pv 1) pe_int)) pa_nil))) (pe_op op_pow pe_int pe_int)))
      (pss_cons (ps_set (i := 3) sc__law_mixed.nd rfl (Or.inl rfl) (pe_op op_mod (pe_op op_add (pe_op op_mulB (pv 2) pe_int) (pe_op op_mulB (pe_op op_mulB (pe_op op_add (pv 1) pe_int) (pe_op op_add (pv 1) pe_int)) pe_int)) pe_int))
      (pss_one (ps_ret (pe_op op_mod (pe_op op_add (pe_op op_add (pe_op op_mulB (pe_op op_fdivP (pv 3) pe_int) pe_int) (pe_op op_mulB (pv 3) (pe_op op_add (pe_op op_mulB (pv 1) (pv 1)) pe_int))) (pv 1)) pe_int))))), ?_⟩
  refine ⟨_, rfl, _, rfl, _, _, rfl, rfl, (by show (0 : Int) < 62; decide), _, _, rfl, rfl, a, ns, _, rfl, hA, (by have := Int.emod_nonneg k (show (62 : Int) ≠ 0 by decide); show 0 <= 1 + k % 62; omega), _, _, rfl, rfl, ⟨by decide, by decide, by decide⟩, _, _, rfl, rfl, (by show (0 : Int) < 10 ^ 20; decide), ?_⟩
  generalize cellF ns (1 + k % 62).toNat = cc
  have hc0 : 0 <= cc % 10 ^ Int.toNat 20 := Int.emod_nonneg cc (show (10 ^ 20 : Int) ≠ 0 by decide)
  have hc1 : cc % 10 ^ Int.toNat 20 < 100000000000000000000 := Int.emod_lt_of_pos cc (show (0 : Int) < 100000000000000000000 by decide)
  have hb : CMulB (cc % 10 ^ Int.toNat 20) 48271 := by
    generalize cc % 10 ^ Int.toNat 20 = c at *
    refine ⟨200, by decide, ?_, by show (48271 : Int).natAbs < 2 ^ 200; decide⟩
    show c.natAbs < 2 ^ 200
    have e : (2 : Nat) ^ 200 = 1606938044258990275541962092341162602522202993782792835301376 := by decide
    omega
  have hkk : (k + 3) * (k + 11) <= 1000003 * 1000011 := Int.mul_le_mul (by omega) (by omega) (by omega) (by decide)
  have hkk0 : 0 <= (k + 3) * (k + 11) := Int.mul_nonneg (by omega) (by omega)
  have hk2 : k * k <= 1000000 * 1000000 := Int.mul_le_mul (by omega) (by omega) (by omega) (by decide)
  have hk20 : 0 <= k * k := Int.mul_nonneg (by omega) (by omega)
  refine ⟨_, rfl, _, _, rfl, rfl, hb, _, rfl, _, _, rfl, rfl, _, rfl, _, _, rfl, rfl, _, _, rfl, rfl, mul64 (by show _ < k + 3; omega) (by show k + 3 < _; omega) (by show _ < k + 11; omega) (by show k + 11 < _; omega), _, _, rfl, rfl, mul64 (by show _ < (k + 3) * (k + 11); omega) (by show (k + 3) * (k + 11) < _; omega) (by decide) (by decide), _, _, rfl, rfl, _, _, rfl, rfl, (by show (0 : Int) < 2147483647; decide), ?_⟩
  have m0 := Int.emod_nonneg (cc % 10 ^ Int.toNat 20 * 48271 + (k + 3) * (k + 11) * 69621) (show (2147483647 : Int) ≠ 0 by decide)
  have m1 := Int.emod_lt_of_pos (cc % 10 ^ Int.toNat 20 * 48271 + (k + 3) * (k + 11) * 69621) (show (0 : Int) < 2147483647 by decide)
  have m2 : 0 <= (cc % 10 ^ Int.toNat 20 * 48271 + (k + 3) * (k + 11) * 69621) % 2147483647 / 977 := Int.ediv_nonneg m0 (by decide)
  have m3 : (cc % 10 ^ Int.toNat 20 * 48271 + (k + 3) * (k + 11) * 69621) % 2147483647 / 977 <= _ := Int.ediv_le_self _ m0
  refine ⟨_, rfl, _, _, rfl, rfl, div64 (by decide) (by decide), _, _, rfl, rfl, mul64 (Int.lt_of_lt_of_le (by decide) m2) (Int.lt_of_le_of_lt m3 (Int.lt_trans m1 (by decide))) (by decide) (by decide), _, rfl, _, rfl, _, rfl, _, _, rfl, rfl, mul64 (by omega) (by omega) (by omega) (by omega), _, _, rfl, rfl, _, _, rfl, rfl, mul64 (Int.lt_of_lt_of_le (by decide) m0) (Int.lt_trans m1 (by decide)) (by show _ < k * k + 7; omega) (by show k * k + 7 < _; omega), _, _, rfl, rfl, _, rfl, _, _, rfl, rfl, _, _, rfl, rfl, (by show (0 : Int) < 2147483587; decide), ?_⟩
  exact q _ (Int.emod_nonneg _ (by decide))
end
end Mw
namespace Mw
open PySem L2
section
variable {P : Program} {w : World} {K : PySem.W.Frag} {mg : Str -> Option Value} {base : Heap} {f : Addr} {fd : FuncData} {cls : Nat -> Addr} {ks : List Nat} {np ns nf tc hC tm wb : Addr} {C_Hand C_PlainHand C_MarginHand C_HalvingHand C_SidesHand X_MendError X_NoFraction X_NoPoint X_NoSide X_NoRow X_NoTable X_NoText X_NotParted X_OneSide X_TooMany X_WrongBook T_code T_tab : Addr}
theorem sc__law_drawn : FnScope ["_law_script", "_law_tops", "_law_found", "_law_cell", "_law_k", "_law_top"] ["_law_script", "_law_tops"] (defScope (top 34)) := ⟨rfl, rfl, rfl, by decide +kernel, rfl, by decide +kernel, by decide +kernel⟩
theorem ok__law_drawn (F : Fun K "_law_drawn" "_law_drawn" (top 34) f fd) (T : Txt BN mg) (c__law_cell_at : Cal P w K mg base 1 "_law_cell_at" ["_law_script", "_law_k"] (spCell K)) (c__law_mixed : Cal P w K mg base 2 "_law_mixed" ["_law_script", "_law_k"] (spMixed2 K)) : FnOk P w K mg base CX0 3 f fd ["_law_script", "_law_tops"] (spDrawn K) := by
  refine F.ok sc__law_drawn (fun vs H Q E h => ?_) (fun cdv A outer s H vs Q E hr h => ?_)
  · obtain ⟨a, b, ns, ts, rfl, _⟩ := h
    rfl
  obtain ⟨a, b, ns, ts, rfl, hA, hB, hT, q⟩ := h
  refine ⟨_, (pss_cons (ps_set (i := 2) sc__law_drawn.nd rfl (Or.inl rfl) (pe_lst pa_nil))
      (pss_cons (ps_set (i := 3) sc__law_drawn.nd rfl (Or.inl rfl) pe_int)
      (pss_cons (ps_for PassesOwn.never rfl (pi_enum rfl (T.nb "enumerate" (by decide)) (pa_cons (pv 1) pa_nil)) (pg_tupK (K := K) (n := 2) rfl rfl (pgs_cons (pg_name (i := 4) sc__law_drawn.nd rfl (Or.inl rfl)) (pgs_cons (pg_name (i := 5) sc__law_drawn.nd rfl (Or.inl rfl)) pgs_nil))) (pss_cons (ps_join (ps_if (pt_cmpR op_eq (pe_op op_mod (pv 4) pe_int) pe_int (nomark _)) (pss_one (ps_set (i := 3) sc__law_drawn.nd rfl (Or.inl rfl) (pe_cal c__law_cell_at (hr.mono (by decide)) rfl (pa_cons (pv 0) (pa_cons (pe_op op_add pe_int (pe_op op_fdivP (pv 4) pe_int)) pa_nil))))) pss_nil))
      (pss_one (ps_if (PW.pt (pw_or (pt_cmpR op_eq (pe_op op_mod (pe_cal c__law_cell_at (hr.mono (by decide)) rfl (pa_cons (pv 0) (pa_cons pe_int pa_nil))) pe_int) pe_int (nomark _)) (pw_or1 (pt_cmpR op_eq (pv 3) pe_int (nomark _))))) (pss_one (ps_expr (pe_bm PySem.F.plainAttrs_list PySem.F.slot_list_append PySem.F.type_list_append mt_append (pv 2) (pa_cons (pe_op op_mod (pe_cal c__law_mixed (hr.mono (by decide)) rfl (pa_cons (pv 0) (pa_cons (pv 4) pa_nil))) (pv 5)) pa_nil)))) (pss_cons (ps_expr (pe_bm PySem.F.plainAttrs_list PySem.F.slot_list_append PySem.F.type_list_append mt_append (pv 2) (pa_cons (pe_op op_mod (pv 3) (pv 5)) pa_nil)))
      (pss_one (ps_set (i := 3) sc__law_drawn.nd rfl (Or.inl rfl) (pe_op op_fdivP (pv 3) (pv 5)))))))))
      (pss_one (ps_ret (pv 2)))))), ?_⟩
  refine ⟨(by show 0 <= sizeLine; decide), fun p hp => ?_⟩
  have s1 := Same.new hp (.lst [])
  refine ⟨_, rfl, b, rfl, ⟨_, s1.seq hB⟩, ?_⟩
  refine for_enum (xs := ts.map V.int) (fun i σ H' => ∃ (ds : List Int) (l : Int) (v4 v5 : Option V), σ = [some (.ref a), some (.ref b), some (.ref p), some (.int l), v4, v5] /\ Same H H' /\ H' p = some (.lst (ds.map V.int)) /\ Paired Below ds (ts.take i))
    ⟨[], _, none, none, rfl, s1, upd_same, by rw [List.take_zero]; exact .nil⟩ (fun i σ H' _ ⟨_, _, _, _, _, sm, _⟩ => sm.seq hB) ?_ ?_
  · rintro i x T0 σ H' hx hT0 ⟨ds, l, v4, v5, rfl, sm, hP, hpr⟩
    obtain ⟨t, ht, rfl⟩ := of_map hx
    have hi := (List.getElem?_eq_some_iff.mp ht).1
    have ht0 := hT.pos t (List.mem_of_getElem? ht)
    have ht1 := hT.low t (List.mem_of_getElem? ht)
    have sT := Same.new hT0 (.tup [.int (i : Nat), .int t])
    have sm' := sm.trans sT
    have hil := hT.len
    have hdl : ds.length <= i := by rw [Paired.length hpr, List.length_take]; omega
    refine ⟨T0, _, rfl, SqT.of upd_same, rfl, _, _, rfl, _, _, rfl, rfl, ?_⟩
    refine ⟨fun σ H2 => ∃ l' : Int, σ = [some (.ref a), some (.ref b), some (.ref p), some (.int l'), some (.int (i : Nat)), some (.int t)] /\ H2 = upd H' T0 (.tup [.int (i : Nat), .int t]), ?_, ?_⟩
    · refine ⟨_, rfl, _, _, rfl, rfl, (by show (0 : Int) < 60; decide), rfl, _, rfl, ?_⟩
      refine iteD (fun _ => ?_) (fun _ => ?_)
      · refine ⟨_, rfl, _, rfl, _, _, rfl, rfl, div64 (by decide) (by decide), _, _, rfl, rfl, a, ns, _, rfl, sm'.seq hA, ?_, ?_⟩
        · have : 0 <= (i : Int) / 60 := Int.ediv_nonneg (by omega) (by decide)
          show 0 <= 1 + (i : Int) / 60
          omega
        · exact ⟨_, rfl, rfl⟩
      · exact ⟨_, rfl, rfl⟩
    rintro σ H2 ⟨l', rfl, rfl⟩
    have add : ∀ (d l2 : Int), 0 <= d /\ d < t -> ∃ (ds' : List Int) (l3 : Int) (v4 v5 : Option V), [some (V.ref a), some (.ref b), some (.ref p), some (.int l2), some (.int (i : Nat)), some (.int t)] = [some (.ref a), some (.ref b), some (.ref p), some (.int l3), v4, v5] /\
        Same H (upd (upd H' T0 (.tup [.int (i : Nat), .int t])) p (.lst (ds.map V.int ++ [.int d]))) /\ upd (upd H' T0 (.tup [.int (i : Nat), .int t])) p (.lst (ds.map V.int ++ [.int d])) p = some (.lst (ds'.map V.int)) /\ Paired Below ds' (ts.take (i + 1)) := fun d l2 h => by
      refine ⟨ds ++ [d], l2, _, _, rfl, sm'.upd_old hp, ?_, ?_⟩
      · rw [upd_same, List.map_append]; rfl
      · rw [take_snoc ht]; exact paired_snoc hpr h
    have hsz : (ds.map V.int).length < sizeLine := by rw [List.length_map]; exact small9 (by omega)
    have hP' : upd H' T0 (.tup [.int (i : Nat), .int t]) p = some (.lst (ds.map V.int)) := sT _ _ hP
    have mo : ∀ z : Int, 0 <= z % t /\ z % t < t := fun z => ⟨Int.emod_nonneg _ (by omega), Int.emod_lt_of_pos _ ht0⟩
    refine ⟨_, rfl, a, ns, 0, rfl, sm'.seq hA, (by decide), _, _, rfl, rfl, (by show (0 : Int) < 2; decide), rfl, _, rfl, ?_⟩
    refine iteD (fun _ => ?_) (fun _ => ?_)
    · refine ⟨_, rfl, .inl ⟨rfl, _, SqL.of hP'⟩, _, rfl, _, rfl, a, ns, _, rfl, sm'.seq hA, by omega, by omega, fun z hz => ?_⟩
      refine ⟨_, rfl, _, _, rfl, rfl, ht0, p, _, _, rfl, rfl, hP', hsz, ?_⟩
      exact add _ _ (mo _)
    · refine ⟨_, rfl, rfl, _, rfl, ?_⟩
      refine iteD (fun _ => ?_) (fun _ => ?_)
      · refine ⟨_, rfl, .inl ⟨rfl, _, SqL.of hP'⟩, _, rfl, _, rfl, a, ns, _, rfl, sm'.seq hA, by omega, by omega, fun z hz => ?_⟩
        refine ⟨_, rfl, _, _, rfl, rfl, ht0, p, _, _, rfl, rfl, hP', hsz, ?_⟩
        exact add _ _ (mo _)
      · refine ⟨_, rfl, .inl ⟨rfl, _, SqL.of hP'⟩, _, rfl, _, rfl, _, _, rfl, rfl, ht0, p, _, _, rfl, rfl, hP', hsz, ?_⟩
        refine ⟨_, rfl, _, rfl, _, _, rfl, rfl, div64 ht0 ht1, ?_⟩
        exact add _ _ (mo _)
  · rintro σ H' ⟨ds, l, v4, v5, rfl, sm, hP, hpr⟩
    rw [List.length_map, List.take_length] at hpr
    exact ⟨_, rfl, q p H' ds sm hp hP hpr⟩
end
end Mw
namespace Mw
open PySem L2
section
variable {P : Program} {w : World} {K : PySem.W.Frag} {mg : Str -> Option Value} {base : Heap} {f : Addr} {fd : FuncData} {cls : Nat -> Addr} {ks : List Nat} {np ns nf tc hC tm wb : Addr} {C_Hand C_PlainHand C_MarginHand C_HalvingHand C_SidesHand X_MendError X_NoFraction X_NoPoint X_NoSide X_NoRow X_NoTable X_NoText X_NotParted X_OneSide X_TooMany X_WrongBook T_code T_tab : Addr}
theorem sc__law_points : FnScope ["_law_drawn_here", "_law_many", "_law_reach", "_law_rows_here", "_law_points_here", "_law_k"] ["_law_drawn_here", "_law_many", "_law_reach", "_law_rows_here"] (defScope (top 35)) := ⟨rfl, rfl, rfl, by decide +kernel, rfl, by decide +kernel, by decide +kernel⟩
theorem ok__law_points (F : Fun K "_law_points" "_law_points" (top 35) f fd) (T : Txt BN mg) : FnOk P w K mg base CX0 1 f fd ["_law_drawn_here", "_law_many", "_law_reach", "_law_rows_here"] (spPointsB K) := by
  refine F.ok sc__law_points (fun vs H Q E h => ?_) (fun cdv A outer s H vs Q E hr h => ?_)
  · obtain ⟨a, ds, m, g, n, blo, bhi, rfl, _⟩ := h
    rfl
  obtain ⟨a, ds, m, g, n, blo, bhi, rfl, hA, hm0, hm1, hn0, hn1, hnm, hd, q⟩ := h
  refine ⟨_, (pss_cons (ps_set (i := 4) sc__law_points.nd rfl (Or.inl rfl) (pe_lst pa_nil))
      (pss_cons (ps_for PassesOwn.never rfl (pi_range1 rfl (T.nb "range" (by decide)) (pa_cons (pv 3) pa_nil)) (pg_name (i := 5) sc__law_points.nd rfl (Or.inl rfl)) (pss_one (ps_expr (pe_bm PySem.F.plainAttrs_list PySem.F.slot_list_append PySem.F.type_list_append mt_append (pv 4) (pa_cons (pe_callTy (call_tupleK (K := K) rfl) rfl (T.nb "tuple" (by decide)) (by decide +kernel) (pa_cons (pe_comp (sc := defScope (top 35)) (N := ["_law_drawn_here", "_law_many", "_law_reach", "_law_rows_here", "_law_points_here", "_law_k"]) (NB := ["_law_number", "_law_reach"]) (fr := [none, some 2]) rfl (by decide +kernel) (pi_list (pe_slice (sl_listK (K := K) rfl) (pv 0) (po_some (pe_op op_mulB (pv 5) (pv 1))) (po_some (pe_op op_mulB (pe_op op_add (pv 5) pe_int) (pv 1))))) (fun _ _ _ _ => (pg_name (i := 0) (show (["_law_number", "_law_reach"] : List Str).Nodup by decide +kernel) rfl (Or.inl rfl))) (fun _ _ _ _ => .nil) (fun _ _ _ _ => (pe_op op_sub (pv 0) (pv 1)))) pa_nil)) pa_nil)))))
      (pss_one (ps_ret (pv 4))))), ?_⟩
  refine ⟨(by show 0 <= sizeLine; decide), fun p hp => ?_⟩
  have s1 := Same.new hp (.lst [])
  refine ⟨_, rfl, n, rfl, by omega, by omega, ?_⟩
  refine for_range (lo := 0) (n := n.toNat) (fun i σ H' => ∃ (as : List Addr) (ps : List (List Int)) (v5 : Option V), σ = [some (.ref a), some (.int m), some (.int g), some (.int n), some (.ref p), v5] /\ Same H H' /\ H' p = some (.lst (as.map V.ref)) /\ PtsAt K H' as ps /\ ps.length = i /\
      (∀ x ∈ ps, x.length = m.toNat) /\ (∀ y ∈ ps, ∀ x ∈ y, blo - g <= x /\ x <= bhi - g))
    ⟨[], [], none, rfl, s1, upd_same, .nil, rfl, fun _ h => absurd h (by simp), fun _ h => absurd h (by simp)⟩ ?_ ?_
  · rintro i σ H' hi ⟨as, ps, v5, rfl, sm, hP, hPs, hpn, hc1, hc2⟩
    have hiN : (0 + (i : Int) + 1) <= n := by omega
    have hle : (0 + (i : Int) + 1) * m <= (ds.length : Int) := Int.le_trans (Int.mul_le_mul_of_nonneg_right hiN (by omega)) hnm
    have hexp : (0 + (i : Int) + 1) * m = (0 + (i : Int)) * m + m := by rw [Int.add_mul, Int.one_mul]
    have hlo : 0 <= (0 + (i : Int)) * m := Int.mul_nonneg (by omega) (by omega)
    have hal : as.length = ps.length := Paired.length hPs
    refine ⟨_, rfl, .inl ⟨rfl, _, SqL.of hP⟩, ?_⟩
    refine ⟨_, rfl, _, rfl, _, rfl, _, _, rfl, rfl, mul64 (by omega) (by omega) (by omega) (by omega), _, rfl, _, rfl, _, _, rfl, rfl, _, rfl, _, _, rfl, rfl, mul64 (by show _ < 0 + (i : Int) + 1; omega) (by show 0 + (i : Int) + 1 < _; omega) (by omega) (by omega), _, rfl, a, _, rfl, sm.seq hA, fun ps1 hps => ?_⟩
    rw [cut_map, cutI_in ds hlo (by omega) hle]
    have hcut : ((ds.drop ((0 + (i : Int)) * m).toNat).take ((0 + (i : Int) + 1) * m - (0 + (i : Int)) * m).toNat).length = m.toNat := by
      rw [List.length_take, List.length_drop]; omega
    have hmem : ∀ (j : Nat) x, ((ds.drop ((0 + (i : Int)) * m).toNat).take ((0 + (i : Int) + 1) * m - (0 + (i : Int)) * m).toNat)[j]? = some x -> blo <= x /\ x <= bhi := fun j x hx => by
      have hj := (List.getElem?_eq_some_iff.mp hx).1
      rw [hcut] at hj
      rw [List.getElem?_take_of_lt (by omega), List.getElem?_drop] at hx
      refine hd _ x ?_ hx
      have h9 : (0 + (i : Int) + 1) * m <= n * m := Int.mul_le_mul_of_nonneg_right hiN (by omega)
      omega
    generalize ((ds.drop ((0 + (i : Int)) * m).toNat).take ((0 + (i : Int) + 1) * m - (0 + (i : Int)) * m).toNat) = some1 at *
    have s5 := Same.new hps (.lst (some1.map V.int))
    refine ⟨ps1, rfl, ⟨_, SqL.of upd_same⟩, fun D hDn => ?_⟩
    refine comp_list (xs := some1.map V.int) (fun j zs H3 => ∃ zi : List Int, zs = zi.map V.int /\ zi.length = j /\ (∀ x ∈ zi, blo - g <= x /\ x <= bhi - g) /\ Same (upd H' ps1 (.lst (some1.map V.int))) H3 /\ H3 D = some (.lst zs)) ⟨[], rfl, rfl, fun _ h => absurd h (by simp), Same.new hDn _, upd_same⟩
      (fun j zs H3 hj ⟨zi, e1, e2, _, _, e3⟩ => ⟨e3, by rw [e1, List.length_map]; omega⟩) (fun j zs H3 _ ⟨_, _, _, _, e2, _⟩ => e2.seq (SqL.of upd_same)) (by rw [List.length_map, hcut]; exact Nat.le_of_lt (small9 (by omega))) ?_ ?_
    · rintro j x zs H3 hx ⟨zi, rfl, e2, e4, e5, e6⟩
      obtain ⟨d, hd1, rfl⟩ := of_map hx
      have hd2 := hmem j d hd1
      refine ⟨⟨rfl, ?_⟩, ?_⟩
      · intro k v ek
        match k, ek with
        | 1, ek => exact ek
        | 0, ek => simp [carry] at ek
        | k + 2, ek => simp [carry] at ek
      refine tYes_then ?_
      refine ⟨_, rfl, _, rfl, _, _, rfl, rfl, ?_⟩
      refine ⟨e6, zi ++ [d - g], by rw [List.map_append]; rfl, by rw [List.length_append, e2]; rfl, fun y hy => ?_, e5.upd_old hDn, by rw [upd_same]⟩
      rcases List.mem_append.mp hy with q1 | q1
      · exact e4 y q1
      · rw [List.mem_singleton.mp q1]; omega
    rintro zs H3 ⟨zi, rfl, e2, e4, e5, e6⟩
    rw [List.length_map, hcut] at e2
    refine ⟨D, _, rfl, .inl ⟨SqL.of e6, fun pl hpl => ?_⟩⟩
    have s6 := Same.new hpl (.tup (zi.map V.int))
    have sAll : Same H' (upd H3 pl (.tup (zi.map V.int))) := s5.trans (e5.trans s6)
    refine ⟨p, _, _, rfl, rfl, sAll _ _ hP, by rw [List.length_map, hal]; exact small9 (by omega), ?_⟩
    have hprN : ∀ (b : Addr) (xs : List V), SqT K (upd H3 pl (.tup (zi.map V.int))) b xs -> SqT K (upd (upd H3 pl (.tup (zi.map V.int))) p (.lst (as.map V.ref ++ [.ref pl]))) b xs := fun b xs hq => by
      rcases hq with (e | ⟨o, e⟩) | e
      · exact .inl (.inl (by rw [upd_ne (fun z => by rw [z, sAll _ _ hP] at e; cases e)]; exact e))
      · exact .inl (.inr ⟨o, by rw [upd_ne (fun z => by rw [z, sAll _ _ hP] at e; cases e)]; exact e⟩)
      · exact .inr e
    refine ⟨as ++ [pl], ps ++ [zi], _, rfl, (sm.trans sAll).upd_old hp, by rw [upd_same, List.map_append]; rfl, ?_, by rw [List.length_append]; show ps.length + 1 = i + 1; omega, fun r hr1 => ?_, fun r hr1 => ?_⟩
    · refine paired_snoc (Paired.mapP hPs fun b r h1 => hprN _ _ (sAll.seqT h1)) (hprN _ _ (SqT.of upd_same))
    · rcases List.mem_append.mp hr1 with z | z
      · exact hc1 r z
      · rw [List.mem_singleton.mp z]; exact e2
    · rcases List.mem_append.mp hr1 with z | z
      · exact hc2 r z
      · rw [List.mem_singleton.mp z]; exact e4
  · rintro σ H' ⟨as, ps, v5, rfl, sm, hP, hPs, hpn, hc1, hc2⟩
    exact ⟨_, rfl, q p H' as ps sm hp hP hPs hpn hc1 hc2⟩
end
end Mw
namespace Mw
open PySem L2
section
variable {P : Program} {w : World} {K : PySem.W.Frag} {mg : Str -> Option Value} {base : Heap} {f : Addr} {fd : FuncData} {cls : Nat -> Addr} {ks : List Nat} {np ns nf tc hC tm wb : Addr} {C_Hand C_PlainHand C_MarginHand C_HalvingHand C_SidesHand X_MendError X_NoFraction X_NoPoint X_NoSide X_NoRow X_NoTable X_NoText X_NotParted X_OneSide X_TooMany X_WrongBook T_code T_tab : Addr}
theorem sc__law_is : FnScope ["_law_found", "_law_due"] ["_law_found", "_law_due"] (defScope (top 36)) := ⟨rfl, rfl, rfl, by decide +kernel, rfl, by decide +kernel, by decide +kernel⟩
theorem ok__law_is (F : Fun K "_law_is" "_law_is" (top 36) f fd) (T : Txt BN mg) : FnOk P w K mg base CX0 1 f fd ["_law_found", "_law_due"] spIs := by
  refine F.ok sc__law_is (fun vs H Q E h => ?_) (fun cdv A outer s H vs Q E hr h => ?_)
  · obtain ⟨n, rfl, _⟩ := h
    rfl
  obtain ⟨n, rfl, q⟩ := h
  refine ⟨_, (pss_one (ps_ret (pe_and (pe_callB (call_isiK (K := K) rfl) rfl (T.nb "isinstance" (by decide)) (by decide +kernel) (pa_cons (pv 0) (pa_cons (pe_ty T "int") pa_nil))) (pe_and (pe_not (pe_callB (call_isiK (K := K) rfl) rfl (T.nb "isinstance" (by decide)) (by decide +kernel) (pa_cons (pv 0) (pa_cons (pe_ty T "bool") pa_nil)))) (pe_one (pe_cmpR op_eq (pv 0) (pv 1) (nomark _))))))), ?_⟩
  refine ⟨_, rfl, _, _, _, _, _, rfl, rfl, TyOf.int _, kt_int, _, rfl, ?_⟩
  refine iteT ?_
  refine ⟨_, rfl, _, _, _, _, _, rfl, rfl, TyOf.int _, kt_bool, _, rfl, _, rfl, ?_⟩
  refine iteT ?_
  refine ⟨_, rfl, _, rfl, rfl, ?_⟩
  rw [decide_eq_true rfl]
  exact q
end
end Mw
namespace Mw
open PySem L2
section
variable {P : Program} {w : World} {K : PySem.W.Frag} {mg : Str -> Option Value} {base : Heap} {f : Addr} {fd : FuncData} {cls : Nat -> Addr} {ks : List Nat} {np ns nf tc hC tm wb : Addr} {C_Hand C_PlainHand C_MarginHand C_HalvingHand C_SidesHand X_MendError X_NoFraction X_NoPoint X_NoSide X_NoRow X_NoTable X_NoText X_NotParted X_OneSide X_TooMany X_WrongBook T_code T_tab : Addr}
theorem sc__law_made : FnScope ["_law_kind", "_law_many", "_law_sides"] ["_law_kind", "_law_many", "_law_sides"] (defScope (top 37)) := ⟨rfl, rfl, rfl, by decide +kernel, rfl, by decide +kernel, by decide +kernel⟩
theorem ok__law_made (F : Fun K "_law_made" "_law_made" (top 37) f fd) (T : Txt BN mg) (gn_Hand : NCal P w K mg base 20 "Hand" ["self", "many"] (spNew (hI cls ks) 0)) (gn_PlainHand : NCal P w K mg base 20 "PlainHand" ["self", "many"] (spNew (hI cls ks) 1)) (gn_MarginHand : NCal P w K mg base 20 "MarginHand" ["self", "many", "margin"] (spNew (hI cls ks) 2)) (gn_HalvingHand : NCal P w K mg base 20 "HalvingHand" ["self", "many"] (spNewV (gI Gnd.v cls ks))) (gn_SidesHand : NCal P w K mg base 20 "SidesHand" ["self", "many", "sides"] (spNewS (gI Gnd.s cls ks))) : FnOk P w K mg base CX0 22 f fd ["_law_kind", "_law_many", "_law_sides"] (spMade cls ks) := by
  refine F.ok sc__law_made (fun vs H Q E h => ?_) (fun cdv A outer s H vs Q E hr h => ?_)
  · obtain ⟨k, m, sd, rfl, _⟩ := h
    rfl
  obtain ⟨k, m, sd, rfl, hO, hT, q⟩ := h
  refine ⟨_, (pss_cons (ps_if (pt_cmpR op_eq (pv 0) pe_int (nomark _)) (pss_one (ps_ret (pe_newG gn_Hand (hr.mono (by decide)) rfl passG_never (pa_cons (pv 1) pa_nil)))) pss_nil)
      (pss_cons (ps_if (pt_cmpR op_eq (pv 0) pe_int (nomark _)) (pss_one (ps_ret (pe_newG gn_PlainHand (hr.mono (by decide)) rfl passG_never (pa_cons (pv 1) pa_nil)))) pss_nil)
      (pss_cons (ps_if (pt_cmpR op_eq (pv 0) pe_int (nomark _)) (pss_one (ps_ret (pe_newG gn_MarginHand (hr.mono (by decide)) rfl passG_never (pa_cons (pv 1) (pa_cons pe_int pa_nil))))) pss_nil)
      (pss_cons (ps_if (pt_cmpR op_eq (pv 0) pe_int (nomark _)) (pss_one (ps_ret (pe_newG gn_HalvingHand (hr.mono (by decide)) rfl passG_never (pa_cons (pv 1) pa_nil)))) pss_nil)
      (pss_one (ps_ret (pe_newG gn_SidesHand (hr.mono (by decide)) rfl passG_never (pa_cons (pv 1) (pa_cons (pv 2) pa_nil))))))))), ?_⟩
  have hk := hO.five
  have hpos := hO.pos
  have ne : ∀ j : Int, (k : Int) ≠ j -> ¬ V.int (k : Int) = V.int j := fun j h z => h (by injection z)
  refine ⟨_, rfl, rfl, _, rfl, ?_⟩
  refine iteD (fun z => ?_) (fun z => ?_)
  · have z0 : k = 0 := by have : V.int (k : Int) = V.int 0 := z; injection this; omega
    subst z0
    exact ⟨_, rfl, m, 3, rfl, hpos, hO.few (by decide), fun r H1 s1 hr hA => q r H1 s1 hr hA⟩
  refine ⟨_, rfl, rfl, _, rfl, ?_⟩
  refine iteD (fun z => ?_) (fun z1 => ?_)
  · have z0 : k = 1 := by have : V.int (k : Int) = V.int 1 := z; injection this; omega
    subst z0
    exact ⟨_, rfl, m, 3, rfl, hpos, hO.few (by decide), fun r H1 s1 hr hA => q r H1 s1 hr hA⟩
  refine ⟨_, rfl, rfl, _, rfl, ?_⟩
  refine iteD (fun z => ?_) (fun z2 => ?_)
  · have z0 : k = 2 := by have : V.int (k : Int) = V.int 2 := z; injection this; omega
    subst z0
    exact ⟨_, rfl, m, 3, rfl, hpos, hO.few (by decide), fun r H1 s1 hr hA => q r H1 s1 hr hA⟩
  refine ⟨_, rfl, rfl, _, rfl, ?_⟩
  refine iteD (fun z => ?_) (fun z3 => ?_)
  · have z0 : k = 3 := by have : V.int (k : Int) = V.int 3 := z; injection this; omega
    subst z0
    exact ⟨_, rfl, m, rfl, hpos, hO.v12 rfl, fun r H1 s1 hr hA => q r H1 s1 hr hA⟩
  have z4 : k = 4 := by
    have a0 : k ≠ 0 := fun y => z (by show V.int (k : Int) = V.int 0; rw [y]; rfl)
    have a1 : k ≠ 1 := fun y => z1 (by show V.int (k : Int) = V.int 1; rw [y]; rfl)
    have a2 : k ≠ 2 := fun y => z2 (by show V.int (k : Int) = V.int 2; rw [y]; rfl)
    have a3 : k ≠ 3 := fun y => z3 (by show V.int (k : Int) = V.int 3; rw [y]; rfl)
    omega
  subst z4
  exact ⟨_, rfl, _, rfl, m, sd, rfl, hpos, hO.few (by decide), (hO.s25 rfl).1, (hO.s25 rfl).2, hT, fun r H1 s1 hr hA => q r H1 s1 hr hA⟩
end
end Mw
namespace Mw
open PySem L2
section
variable {P : Program} {w : World} {K : PySem.W.Frag} {mg : Str -> Option Value} {base : Heap} {f : Addr} {fd : FuncData} {cls : Nat -> Addr} {ks : List Nat} {np ns nf tc hC tm wb : Addr} {C_Hand C_PlainHand C_MarginHand C_HalvingHand C_SidesHand X_MendError X_NoFraction X_NoPoint X_NoSide X_NoRow X_NoTable X_NoText X_NotParted X_OneSide X_TooMany X_WrongBook T_code T_tab : Addr}
theorem sc__law_rows : FnScope ["_law_script", "_law_head", "_law_kind", "_law_many", "_law_sides", "_law_size", "_law_reach", "_law_tops", "_law_drawn_here"] ["_law_script", "_law_head", "_law_kind", "_law_many", "_law_sides"] (defScope (top 38)) := ⟨rfl, rfl, rfl, by decide +kernel, rfl, by decide +kernel, by decide +kernel⟩
theorem ok__law_rows (F : Fun K "_law_rows" "_law_rows" (top 38) f fd) (T : Txt BN mg) (c__law_drawn : Cal P w K mg base 3 "_law_drawn" ["_law_script", "_law_tops"] (spDrawn K)) (c__law_points : Cal P w K mg base 1 "_law_points" ["_law_drawn_here", "_law_many", "_law_reach", "_law_rows_here"] (spPointsB K)) : FnOk P w K mg base CX0 4 f fd ["_law_script", "_law_head", "_law_kind", "_law_many", "_law_sides"] (spRows5 K) := by
  refine F.ok sc__law_rows (fun vs H Q E h => ?_) (fun cdv A outer s H vs Q E hr h => ?_)
  · obtain ⟨a, ns, hd, k, m, sd, rfl, _⟩ := h
    rfl
  obtain ⟨a, ns, hd, k, m, sd, rfl, hS, hO, hk2, hsd2, hsd5, q⟩ := h
  refine ⟨_, (pss_cons (ps_join (ps_set (i := 5) sc__law_rows.nd rfl (Or.inl rfl) (pe_op op_mod (pe_op op_fdivP (pv 1) pe_int) pe_int)))
      (pss_cons (ps_set (i := 6) sc__law_rows.nd rfl (Or.inr rfl) (pe_ix (ix_listK (K := K) rfl) (pe_lst (pa_cons pe_int (pa_cons pe_int pa_nil))) (pe_op op_mod (pe_op op_fdivP (pv 1) pe_int) pe_int) (fun _ _ => rfl)))
      (pss_cons (ps_set (i := 7) sc__law_rows.nd rfl (Or.inl rfl) (pe_op op_cat (pe_comp (sc := defScope (top 38)) (N := ["_law_script", "_law_head", "_law_kind", "_law_many", "_law_sides", "_law_size", "_law_reach", "_law_tops", "_law_drawn_here"]) (NB := ["_law_k", "_law_sides"]) (fr := [none, some 4]) rfl (by decide +kernel) (pi_range1 rfl (T.nb "range" (by decide)) (pa_cons (pv 5) pa_nil)) (fun _ _ _ _ => (pg_name (i := 0) (show (["_law_k", "_law_sides"] : List Str).Nodup by decide +kernel) rfl (Or.inl rfl))) (fun _ _ _ _ => .nil) (fun _ _ _ _ => (pv 1))) (pe_comp (sc := defScope (top 38)) (N := ["_law_script", "_law_head", "_law_kind", "_law_many", "_law_sides", "_law_size", "_law_reach", "_law_tops", "_law_drawn_here"]) (NB := ["_law_k", "_law_reach"]) (fr := [none, some 6]) rfl (by decide +kernel) (pi_range1 rfl (T.nb "range" (by decide)) (pa_cons (pe_op op_mulB (pv 5) (pv 3)) pa_nil)) (fun _ _ _ _ => (pg_name (i := 0) (show (["_law_k", "_law_reach"] : List Str).Nodup by decide +kernel) rfl (Or.inl rfl))) (fun _ _ _ _ => .nil) (fun _ _ _ _ => (pe_op op_add (pe_op op_mulB pe_int (pv 1)) pe_int)))))
      (pss_cons (ps_join (ps_if (pt_cmpR op_eq (pv 2) pe_int (nomark _)) (pss_cons (ps_comp (i := 7) sc__law_rows.nd rfl rfl (sc := defScope (top 38)) (N := ["_law_script", "_law_head", "_law_kind", "_law_many", "_law_sides", "_law_size", "_law_reach", "_law_tops", "_law_drawn_here"]) (NB := ["_law_k"]) (fr := [none]) rfl (by decide +kernel) (pi_range1 rfl (T.nb "range" (by decide)) (pa_cons (pe_op op_mulB (pv 5) (pe_op op_add (pv 3) pe_int)) pa_nil)) (fun _ _ _ _ => (pg_name (i := 0) (show (["_law_k"] : List Str).Nodup by decide +kernel) rfl (Or.inl rfl))) (fun _ _ _ _ => .nil) (fun _ _ _ _ => pe_int))
      (pss_one (ps_set (i := 6) sc__law_rows.nd rfl (Or.inr rfl) pe_int))) pss_nil))
      (pss_cons (ps_set (i := 8) sc__law_rows.nd rfl (Or.inl rfl) (pe_cal c__law_drawn (hr.mono (by decide)) rfl (pa_cons (pv 0) (pa_cons (pv 7) pa_nil))))
      (pss_one (ps_ret (pe_comp (sc := defScope (top 38)) (N := ["_law_script", "_law_head", "_law_kind", "_law_many", "_law_sides", "_law_size", "_law_reach", "_law_tops", "_law_drawn_here"]) (NB := ["_law_point", "_law_side"]) (fr := [none, none]) rfl (by decide +kernel) (pi_zip rfl (T.nb "zip" (by decide)) (pa_cons (pe_cal c__law_points (hr.mono (by decide)) rfl (pa_cons (pe_slice (sl_listK (K := K) rfl) (pv 8) (po_some (pv 5)) po_none) (pa_cons (pv 3) (pa_cons (pv 6) (pa_cons (pv 5) pa_nil))))) (pa_cons (pv 8) pa_nil))) (fun _ _ _ _ => (pg_tupK (K := K) (n := 2) rfl rfl (pgs_cons (pg_name (i := 0) (show (["_law_point", "_law_side"] : List Str).Nodup by decide +kernel) rfl (Or.inl rfl)) (pgs_cons (pg_name (i := 1) (show (["_law_point", "_law_side"] : List Str).Nodup by decide +kernel) rfl (Or.inl rfl)) pgs_nil)))) (fun _ _ _ _ => .nil) (fun _ _ _ _ => (pe_tup (pa_cons (pv 0) (pa_cons (pv 1) pa_nil)))))))))))), ?_⟩
  have hm0 := hO.pos
  have hm12 : m <= 12 := by by_cases z : k = 3; exact hO.v12 z; have := hO.few z; omega
  have q9 : 0 <= hd / 480 % 9 /\ hd / 480 % 9 < 9 := ⟨Int.emod_nonneg _ (by decide), Int.emod_lt_of_pos _ (by decide)⟩
  have q2 : 0 <= hd / 4320 % 2 /\ hd / 4320 % 2 < 2 := ⟨Int.emod_nonneg _ (by decide), Int.emod_lt_of_pos _ (by decide)⟩
  obtain ⟨n, en⟩ : ∃ k : Nat, hd / 480 % 9 = (k : Int) := ⟨(hd / 480 % 9).toNat, by omega⟩
  have hn8 : n <= 8 := by omega
  refine ⟨fun σ H' => σ = [some (.ref a), some (.int hd), some (.int k), some (.int m), some (.int sd), some (.int n), none, none, none] /\ H' = H, ?_, ?_⟩
  · refine ⟨_, rfl, _, _, rfl, rfl, div64 (by decide) (by decide), _, _, rfl, rfl, (by show (0 : Int) < 9; decide), ?_⟩
    refine ⟨?_, rfl⟩
    show [some (V.ref a), some (.int hd), some (.int k), some (.int m), some (.int sd), some (.int (hd / 480 % 9)), none, none, none] = _
    rw [en]
  rintro σ H0 ⟨rfl, e0⟩
  subst e0
  obtain ⟨reach, hreach, hat1⟩ := at_mem (ds := [2, 4]) (z := hd / 4320 % 2) q2.1 q2.2
  have hre : 2 <= reach /\ reach <= 4 := by
    simp at hreach
    rcases hreach with rfl | rfl <;> decide
  refine ⟨(by show 2 <= sizeLine; decide), fun p1 hp1 => ?_⟩
  refine ⟨_, rfl, _, _, rfl, rfl, div64 (by decide) (by decide), _, _, rfl, rfl, (by show (0 : Int) < 2; decide), p1, _, _, _, rfl, rfl, SqL.of upd_same, hat1, ?_⟩
  have s1 := Same.new hp1 (.lst [.int 2, .int 4])
  have hnm : n * m <= 96 := Nat.mul_le_mul hn8 hm12
  have hnmI : (n : Int) * m = ((n * m : Nat) : Int) := by rw [Int.natCast_mul]
  have hnm1 : (n : Int) * ((m : Int) + 1) = ((n + n * m : Nat) : Int) := by rw [Int.mul_add, Int.mul_one, hnmI, Int.natCast_add]; omega
  refine ⟨_, rfl, (n : Int), rfl, by omega, by omega, fun D1 hD1 => ?_⟩
  refine comp_range_rel (n := n) (fun _ _ y => y = .int sd) (fun _ _ _ _ _ h => h) (Nat.le_of_lt (small1000 (by omega))) hD1 (fun i H1 R hi1 s1 _ hq => ⟨wk1 rfl, ⟨_, rfl, hq _ H1 (Same.refl _) rfl⟩⟩) ?_
  rintro ys H3 s3 hL1 hy1 hy2
  have ey : ys = List.replicate n (.int sd) := List.eq_replicate_iff.mpr ⟨hy1, fun y hy => by obtain ⟨j, hj⟩ := List.getElem?_of_mem hy; exact hy2 j y hj⟩
  subst ey
  clear hy1 hy2
  refine ⟨_, rfl, _, rfl, _, _, rfl, rfl, mul64 (by omega) (by omega) (by omega) (by omega), (n : Int) * m, rfl, by omega, by omega, fun D2 hD2 => ?_⟩
  refine comp_range_rel (n := ((n : Int) * m).toNat) (fun _ _ y => y = .int (2 * reach + 1)) (fun _ _ _ _ _ h => h) (Nat.le_of_lt (small1000 (by omega))) hD2 (fun i H1 R hi1 s1 _ hq => ⟨wk1 rfl, ?_⟩) ?_
  · exact ⟨_, rfl, _, _, rfl, rfl, mul64 (by decide) (by decide) (by omega) (by omega), _, _, rfl, rfl, hq _ H1 (Same.refl _) rfl⟩
  rintro ys H4 s4 hL2 hy1 hy2
  have ey : ys = List.replicate (n * m) (.int (2 * reach + 1)) := List.eq_replicate_iff.mpr ⟨by rw [hy1, hnmI, Int.toNat_natCast], fun y hy => by obtain ⟨j, hj⟩ := List.getElem?_of_mem hy; exact hy2 j y hj⟩
  subst ey
  clear hy1 hy2
  refine ⟨D1, D2, _, _, rfl, rfl, s4 _ _ hL1, hL2, by rw [List.length_replicate, List.length_replicate]; exact Nat.le_of_lt (small1000 (by omega)), fun D3 hD3 => ?_⟩
  have eT : List.replicate n (V.int sd) ++ List.replicate (n * m) (V.int (2 * reach + 1)) = (List.replicate n (sd : Int) ++ List.replicate (n * m) (2 * reach + 1)).map V.int := by
    rw [List.map_append, List.map_replicate, List.map_replicate]
  rw [eT]
  have s5 := Same.new hD3 (.lst ((List.replicate n (sd : Int) ++ List.replicate (n * m) (2 * reach + 1)).map V.int))
  have s15 := s1.trans (s3.trans (s4.trans s5))
  refine ⟨fun σ H' => ∃ (A B re : Int) (D : Addr), σ = [some (.ref a), some (.int hd), some (.int k), some (.int m), some (.int sd), some (.int n), some (.int re), some (.ref D), none] /\ Same H0 H' /\ H' D = some (.lst ((List.replicate n A ++ List.replicate (n * m) B).map V.int)) /\
      0 < A /\ A <= sd /\ 0 < B /\ B <= 9 /\ 0 <= re /\ re <= 4 /\ B - 1 - re <= 4 /\ (k = 3 -> re = 0 /\ B = 2), ?_, ?_⟩
  · refine ⟨_, rfl, rfl, _, rfl, ?_⟩
    refine iteD (fun z => ?_) (fun z => ?_)
    · have z3 : k = 3 := by have : V.int (k : Int) = V.int 3 := z; injection this; omega
      refine ⟨_, rfl, _, rfl, _, _, rfl, rfl, _, _, rfl, rfl, mul64 (by omega) (by omega) (by omega) (by omega), (n : Int) * ((m : Int) + 1), rfl, by omega, by omega, fun D5 hD5 => ?_⟩
      refine comp_range_rel (n := ((n : Int) * ((m : Int) + 1)).toNat) (fun _ _ y => y = .int 2) (fun _ _ _ _ _ h => h) (Nat.le_of_lt (small1000 (by omega))) hD5 (fun i H1 R hi1 s1 _ hq => ⟨wk_none (n := 1) rfl, hq _ H1 (Same.refl _) rfl⟩) ?_
      rintro ys H6 s6 hL6 hy1 hy2
      have ey : ys = List.replicate (n + n * m) (.int 2) := List.eq_replicate_iff.mpr ⟨by rw [hy1, hnm1, Int.toNat_natCast], fun y hy => by obtain ⟨j, hj⟩ := List.getElem?_of_mem hy; exact hy2 j y hj⟩
      subst ey
      refine ⟨2, 2, 0, D5, rfl, s15.trans s6, ?_, by decide, by omega, by decide, by decide, by decide, by decide, by decide, fun _ => ⟨rfl, rfl⟩⟩
      rw [hL6, List.replicate_append_replicate, List.map_replicate]
    · have z3 : k ≠ 3 := fun y => z (by show V.int (k : Int) = V.int 3; rw [y]; rfl)
      exact ⟨sd, 2 * reach + 1, reach, D3, rfl, s15, upd_same, by omega, by omega, by omega, by omega, by omega, by omega, by omega, fun y => absurd y z3⟩
  clear hat1 hreach s15 s5 hD3 hL1 hL2 s3 s4 eT s1 hp1 hD1 hD2
  rintro σ H5 ⟨A, B, re, D, rfl, s1, hL, hA0, hA1, hB0, hB1, hr0, hr4, hBr, hk3⟩
  refine ⟨_, rfl, _, rfl, a, D, ns, _, rfl, s1.seq hS, SqL.of hL, ⟨by rw [List.length_append, List.length_replicate, List.length_replicate]; omega, fun t ht => ?_, fun t ht => ?_⟩, fun r H6 ds s2 hrn hR hpd => ?_⟩
  · rcases List.mem_append.mp ht with y | y <;> rw [(List.mem_replicate.mp y).2] <;> omega
  · rcases List.mem_append.mp ht with y | y <;> rw [(List.mem_replicate.mp y).2] <;> omega
  have hdl : ds.length = n + n * m := by rw [Paired.length hpd, List.length_append, List.length_replicate, List.length_replicate]
  obtain ⟨hpa, hpb⟩ := paired_split hpd
  rw [List.length_replicate] at hpa hpb
  have hb1 := below_rep hpa
  have hb2 := below_rep hpb
  refine ⟨_, rfl, _, rfl, (n : Int), rfl, r, _, rfl, SqL.of hR, fun p5 hp5 => ?_⟩
  rw [cut_map, cutI_from ds (by omega) (by omega), Int.toNat_natCast]
  refine ⟨_, rfl, _, rfl, _, rfl, p5, ds.drop n, m, re, n, 0, B - 1, rfl, SqL.of upd_same, by omega, by omega, by omega, by omega, by rw [hnmI, List.length_drop]; omega, fun j d _ hd => by have := hb2.2 d (List.mem_of_getElem? hd); omega, fun r2 H7 as ps s6 hr2 hR2 hPs hpl hc1 hc2 => ?_⟩
  rw [Int.toNat_natCast] at hpl
  have s56 := (Same.new hp5 (.lst ((ds.drop n).map V.int))).trans s6
  have hR7 := s56 _ _ hR
  have hal : as.length = n := by rw [Paired.length hPs, hpl]
  refine ⟨_, rfl, false, false, r2, r, rfl, ⟨_, SqL.of hR2⟩, ⟨_, SqL.of hR7⟩, fun D9 hD9 => ?_⟩
  refine comp_zip_rel (b1 := false) (b2 := false) (us := as.map V.ref) (vs := ds.map V.int) (fun H' i y => ∃ (t p : Addr) (d : Int), y = .ref t /\ t ≠ D9 /\ H' t = some (.tup [.ref p, .int d]) /\ as[i]? = some p /\ ds[i]? = some d) (fun H1 H2 i y o ⟨t, p, d, e, ne, h, r1, r2⟩ => ⟨t, p, d, e, ne, o _ _ ne h, r1, r2⟩) (SqL.of hR2) (SqL.of hR7) (by rw [List.length_map]; exact Nat.le_of_lt (small1000 (by omega))) hD9 ?_ ?_
  · rintro i u v T0 H8 R hu hv s8 hDn hT0 hq
    obtain ⟨pa, hpa', rfl⟩ := of_map hu
    obtain ⟨d, hd', rfl⟩ := of_map hv
    refine ⟨T0, _, rfl, SqT.of upd_same, rfl, _, _, rfl, _, _, rfl, rfl, wk_none (n := 2) rfl, ?_⟩
    refine ⟨_, rfl, _, rfl, (by show 2 <= sizeLine; decide), fun t ht => hq _ _ (Same.new ht _) ⟨t, pa, d, rfl, fun z => ?_, upd_same, hpa', hd'⟩⟩
    have hDT : D9 ≠ T0 := fun y => hDn (by rw [y]; exact hT0)
    rw [z, upd_ne hDT] at ht
    exact hDn ht
  rintro ys H8 s8 hD8 hy1 hy2
  rw [List.length_map, List.length_map, hal, hdl] at hy1
  obtain ⟨cs, ecs, hCs⟩ := rows_of (K := K) (H := H8) (ys := ys) (rs := ps.zip ds) (by rw [hy1, List.length_zip, hpl, hdl]) fun j y qq hyj hqj => by
    obtain ⟨t, p, d, e, _, h, r1, r2⟩ := hy2 j y hyj
    obtain ⟨g1, g2⟩ := List.getElem?_zip_eq_some.mp hqj
    obtain ⟨pp, e1, e2⟩ := paired_get hPs r1
    rw [g1] at e1
    rw [g2] at r2
    cases e1
    cases r2
    exact ⟨t, p, e, SqT.of h, s8.seqT e2⟩
  subst ecs
  refine q D9 H8 cs (ps.zip ds) (s1.trans (s2.trans (s56.trans s8))) (s1.free (s2.free (s56.free hD9))) hD8 hCs (by rw [List.length_zip]; omega) fun qq hqq => ?_
  obtain ⟨j, hj⟩ := List.getElem?_of_mem hqq
  obtain ⟨g1, g2⟩ := List.getElem?_zip_eq_some.mp hj
  have hjn : j < n := by have := (List.getElem?_eq_some_iff.mp g1).1; omega
  have hpm := List.mem_of_getElem? g1
  have hl1 := hc1 _ hpm
  have hl2 := hc2 _ hpm
  have hd9 := hb1.2 qq.2 (List.mem_of_getElem? (i := j) (by rw [List.getElem?_take_of_lt hjn]; exact g2))
  exact ⟨by omega, fun x hx => by have := hl2 x hx; omega, fun z x hx => by have := hl2 x hx; have := hk3 z; omega, by omega, by omega⟩
end
end Mw
namespace Mw
open PySem L2
section
variable {P : Program} {w : World} {K : PySem.W.Frag} {mg : Str -> Option Value} {base : Heap} {f : Addr} {fd : FuncData} {cls : Nat -> Addr} {ks : List Nat} {np ns nf tc hC tm wb : Addr} {C_Hand C_PlainHand C_MarginHand C_HalvingHand C_SidesHand X_MendError X_NoFraction X_NoPoint X_NoSide X_NoRow X_NoTable X_NoText X_NotParted X_OneSide X_TooMany X_WrongBook T_code T_tab : Addr}
theorem sc__law_walk : FnScope ["_law_hand", "_law_rows_here", "_law_most", "_law_book", "_law_right", "_law_at"] ["_law_hand", "_law_rows_here", "_law_most"] (defScope (top 39)) := ⟨rfl, rfl, rfl, by decide +kernel, rfl, by decide +kernel, by decide +kernel⟩
theorem ok__law_walk (F : Fun K "_law_walk" "_law_walk" (top 39) f fd) (T : Txt BN mg) (gm_put : MCal P w K mg base 20 (Kds cls ks) "put" ["self", "point", "side"] (spPutG K cls ks np ns)) : FnOk P w K mg base CX0 22 f fd ["_law_hand", "_law_rows_here", "_law_most"] (spWk K cls ks) := by
  refine F.ok sc__law_walk (fun vs H Q E h => ?_) (fun cdv A outer s H vs Q E hr h => ?_)
  · obtain ⟨x, b, as, rs, g, rfl, _⟩ := h
    rfl
  obtain ⟨x, b, as, rs, g, rfl, hA, hB, hRs, hrl, hOk, hFit, hErr, q⟩ := h
  refine ⟨_, (pss_cons (ps_set (i := 3) sc__law_walk.nd rfl (Or.inl rfl) (pe_lst pa_nil))
      (pss_cons (ps_set (i := 4) sc__law_walk.nd rfl (Or.inl rfl) pe_int)
      (pss_cons (ps_set (i := 5) sc__law_walk.nd rfl (Or.inl rfl) pe_int)
      (pss_cons (ps_while PassesOwn.never (PW.pt (pw_and (pt_cmpR op_lt (pv 4) (pe_callB (call_lenK (K := K) rfl) rfl (T.nb "len" (by decide)) (by decide +kernel) (pa_cons (pv 1) pa_nil)) (nomark _)) (pw_and1 (pt_cmpR op_lt (pe_callB (call_lenK (K := K) rfl) rfl (T.nb "len" (by decide)) (by decide +kernel) (pa_cons (pv 3) pa_nil)) (pv 2) (nomark _))))) (pss_cons (ps_set (i := 4) sc__law_walk.nd rfl (Or.inl rfl) (pe_op op_add (pv 4) pe_int))
      (pss_cons (ps_join (ps_if (pt_val (pe_methG (pv 0) gm_put (hr.mono (by decide)) passG_never (pa_cons (pe_ix (ix_tupK (K := K) rfl) (pe_ix (ix_listK (K := K) rfl) (pv 1) (pv 5) (fun _ _ => rfl)) pe_int (fun _ _ => rfl)) (pa_cons (pe_ix (ix_tupK (K := K) rfl) (pe_ix (ix_listK (K := K) rfl) (pv 1) (pv 5) (fun _ _ => rfl)) pe_int (fun _ _ => rfl)) pa_nil)))) (pss_cons (ps_expr (pe_bm PySem.F.plainAttrs_list PySem.F.slot_list_append PySem.F.type_list_append mt_append (pv 3) (pa_cons (pv 5) pa_nil)))
      (pss_one (ps_set (i := 4) sc__law_walk.nd rfl (Or.inl rfl) pe_int))) pss_nil))
      (pss_one (ps_set (i := 5) sc__law_walk.nd rfl (Or.inl rfl) (pe_op op_mod (pe_op op_add (pv 5) pe_int) (pe_callB (call_lenK (K := K) rfl) rfl (T.nb "len" (by decide)) (by decide +kernel) (pa_cons (pv 1) pa_nil))))))))
      (pss_one (ps_ret (pv 3))))))), ?_⟩
  have hal : as.length = rs.length := Paired.length hRs
  refine ⟨(by show 0 <= sizeLine; decide), fun c hc => ?_⟩
  have s1 := Same.new hc (.lst [])
  have hC1 : upd H c (.lst []) c = some (.lst (numsV [])) := upd_same
  have hA1 := hA.same s1
  have hB1 : SqL K (upd H c (.lst [])) b (as.map V.ref) := SqL.of (s1 _ _ hB)
  have hR1 := hRs.same s1
  have hbc : b ≠ c := ne_of_none hB hc
  generalize upd H c (.lst []) = H1 at *
  refine while_by (fun σ H' => ∃ (t rt : Nat), σ = [some (.ref x), some (.ref b), some (.int 40), some (.ref c), some (.int rt), some (.int (t % rs.length : Nat))] /\ KpL [x] c H1 H' /\ GAt cls ks H' x (vis rs g t).1 /\ H' c = some (.lst (numsV (vis rs g t).2)) /\ (vis rs g t).2.length <= 40 /\ rt <= rs.length)
    (fun σ H' => (40 + 1 - lenAt H' c) * (rs.length + 1) + (rs.length - rtOf6 σ))
    ⟨0, 0, by rw [Nat.zero_mod]; rfl, KpL.refl, hA1, hC1, Nat.zero_le _, Nat.zero_le _⟩ ?_ (fun σ H Q Q' m h => ?_)
  · rintro σ H2 ⟨t, rt, rfl, kp, hA2, hC2, hbl, hrn⟩
    refine ⟨_, rfl, _, rfl, b, _, rfl, .inl (kp.seq hbc hB1), _, _, rfl, rfl, _, rfl, ?_⟩
    refine iteD (fun z => ?_) (fun z => ?_)
    rotate_left
    · exact iteF ⟨_, rfl, q c t H2 (kp.kp s1 hc) hc hA2 hC2 hbl⟩
    refine ⟨_, rfl, c, _, rfl, .inl (SqL.of hC2), _, rfl, _, _, rfl, rfl, _, rfl, ?_⟩
    refine iteD (fun z2 => ?_) (fun z2 => ?_)
    rotate_left
    · exact ⟨_, rfl, q c t H2 (kp.kp s1 hc) hc hA2 hC2 hbl⟩
    have z1 : rt < rs.length := by have : (rt : Int) < ((as.map V.ref).length : Int) := z; rw [List.length_map] at this; omega
    have z3 : (vis rs g t).2.length < 40 := by have : ((numsV (vis rs g t).2).length : Int) < 40 := z2; rw [List.length_map] at this; omega
    have hne : rs ≠ [] := fun y => by rw [y] at z1; simp at z1
    obtain ⟨C, dx, fs, hi, hkd, hno⟩ := hA2.ins
    refine ⟨_, rfl, _, _, rfl, rfl, ?_⟩
    have htm : t % rs.length < rs.length := Nat.mod_lt _ (by omega)
    have hta : t % rs.length < as.length := by omega
    obtain ⟨r0, hr0, pa, hq1, hq2⟩ := paired_get (kp.rows hC1 hR1) (List.getElem?_eq_getElem hta)
    have hfit := (vis_fit hOk hFit hne t)
    have hf0 := hfit.2 r0 (List.mem_of_getElem? hr0)
    have herr := (vis_err (rs := rs) (g := g) t).1
    have hsm : (vis rs g t).1.Small 0 := Gnd.small_of (by omega)
    have hat : atI (as.map V.ref) ((t % rs.length : Nat) : Int) = some (.ref as[t % rs.length]) := atI_nat (by rw [List.getElem?_map, List.getElem?_eq_getElem hta]; rfl)
    refine ⟨fun σ H' => ∃ (rt' : Nat), σ = [some (.ref x), some (.ref b), some (.int 40), some (.ref c), some (.int rt'), some (.int (t % rs.length : Nat))] /\ KpL [x] c H1 H' /\ GAt cls ks H' x (vis rs g (t + 1)).1 /\ H' c = some (.lst (numsV (vis rs g (t + 1)).2)) /\ (vis rs g (t + 1)).2.length <= 40 /\ rt' <= rs.length /\
        (40 + 1 - (vis rs g (t + 1)).2.length) * (rs.length + 1) + (rs.length - rt') < (40 + 1 - (vis rs g t).2.length) * (rs.length + 1) + (rs.length - rt), ?_, ?_⟩
    · refine ⟨_, rfl, x, C, dx, fs, rfl, hi, hkd, hno _ (by decide +kernel), _, rfl, _, rfl, b, _, _, _, rfl, rfl, kp.seq hbc hB1, hat, as[t % rs.length], _, _, _, rfl, rfl, hq1, rfl, _, rfl, _, rfl, b, _, _, _, rfl, rfl, kp.seq hbc hB1, hat, as[t % rs.length], _, _, _, rfl, rfl, hq1, rfl, ⟨_, _, hi⟩, x, pa, (vis rs g t).1, r0.1, r0.2, rfl, hA2, hfit.1, hsm, hq2, fun e => absurd (Gnd.pt_len hf0.1) e, fun _ e => absurd e (by rw [hf0.2]; decide), fun _ _ => ⟨hf0.1, fun H3 k3 hA3 => ?_⟩⟩
      refine ⟨_, rfl, ?_⟩
      have kp3 := kp.trans (KpL.of k3)
      have hC3 : H3 c = some (.lst (numsV (vis rs g t).2)) := k3.lst hC2
      refine iteB (fun hw => ?_) (fun hw => ?_)
      · have ev := vis_wrong (rs := rs) (g := g) hr0 hw
        refine ⟨_, rfl, .inl ⟨rfl, _, SqL.of hC3⟩, _, rfl, c, _, _, rfl, rfl, hC3, by rw [List.length_map]; exact small1000 (by omega), ?_⟩
        refine ⟨0, rfl, kp3.upd hC3, ?_, ?_, ?_, Nat.zero_le _, ?_⟩
        · rw [ev]; exact hA3.keepL hC3 OffD.upd
        · rw [upd_same, ev]; simp [numsV]
        · rw [ev, List.length_append]; show (vis rs g t).2.length + 1 <= 40; omega
        · rw [ev, List.length_append]
          show (40 + 1 - ((vis rs g t).2.length + 1)) * (rs.length + 1) + (rs.length - 0) < _
          have e9 : 40 + 1 - (vis rs g t).2.length = (40 + 1 - ((vis rs g t).2.length + 1)) + 1 := by omega
          rw [e9, Nat.add_mul, Nat.one_mul]
          omega
      · have ev := vis_right (rs := rs) (g := g) hr0 hw
        have es : (vis rs g t).1.step r0.1 r0.2 = (vis rs g t).1 := by rw [Gnd.step_eq, if_neg (by rw [hw]; decide)]
        rw [es] at hA3
        refine ⟨rt + 1, rfl, kp3, by rw [ev]; exact hA3, by rw [ev]; exact hC3, by rw [ev]; exact hbl, by omega, ?_⟩
        rw [ev]; omega
    · rintro σ H3 ⟨rt', rfl, kp3, hA3, hC3, hbl3, hrn3, hmeas⟩
      refine ⟨_, rfl, _, _, rfl, rfl, _, rfl, b, _, rfl, .inl (kp3.seq hbc hB1), _, _, rfl, rfl, (by show (0 : Int) < (((as.map V.ref).length : Nat) : Int); rw [List.length_map]; omega), ?_⟩
      refine ⟨⟨t + 1, rt', ?_, kp3, hA3, hC3, hbl3, hrn3⟩, ?_⟩
      · have e1 : (((t % rs.length : Nat) : Int) + 1) % (((as.map V.ref).length : Nat) : Int) = (((t + 1) % rs.length : Nat) : Int) := by
          rw [List.length_map, hal, Int.natCast_emod, Int.natCast_emod, Int.emod_add_emod, Int.natCast_add]; rfl
        show [some (V.ref x), some (.ref b), some (.int 40), some (.ref c), some (.int rt'), some (.int ((((t % rs.length : Nat) : Int) + 1) % (((as.map V.ref).length : Nat) : Int)))] = _
        rw [e1]
      · show (40 + 1 - lenAt H3 c) * (rs.length + 1) + (rs.length - (rt' : Int).toNat) < (40 + 1 - lenAt H2 c) * (rs.length + 1) + (rs.length - (rt : Int).toNat)
        rw [lenAt_of hC3, lenAt_of hC2, List.length_map, List.length_map, Int.toNat_natCast, Int.toNat_natCast]
        exact hmeas
  · obtain ⟨v, e, v2, e2, p, ys, e3, h1, i, j, e4, e5, k, ek, qq⟩ := h
    refine ⟨v, e, v2, e2, p, ys, e3, h1, i, j, e4, e5, k, ek, ?_⟩
    cases k with
    | false => rw [if_neg (by decide)] at qq ⊢; exact m _ _ qq
    | true =>
      rw [if_pos rfl] at qq ⊢
      obtain ⟨v, e, p, ys, e3, h1, v2, e2, i, j, e4, e5, k, ek, qq⟩ := qq
      exact ⟨v, e, p, ys, e3, h1, v2, e2, i, j, e4, e5, k, ek, m _ _ qq⟩
end
end Mw
namespace Mw
open PySem L2
section
variable {P : Program} {w : World} {K : PySem.W.Frag} {mg : Str -> Option Value} {base : Heap} {f : Addr} {fd : FuncData} {cls : Nat -> Addr} {ks : List Nat} {np ns nf tc hC tm wb : Addr} {C_Hand C_PlainHand C_MarginHand C_HalvingHand C_SidesHand X_MendError X_NoFraction X_NoPoint X_NoSide X_NoRow X_NoTable X_NoText X_NotParted X_OneSide X_TooMany X_WrongBook T_code T_tab : Addr}
theorem sc__law_spoiled : FnScope ["_law_book", "_law_rows_here", "_law_number", "_law_at", "_law_rest", "_law_odd"] ["_law_book", "_law_rows_here", "_law_number"] (defScope (top 40)) := ⟨rfl, rfl, rfl, by decide +kernel, rfl, by decide +kernel, by decide +kernel⟩
theorem ok__law_spoiled (F : Fun K "_law_spoiled" "_law_spoiled" (top 40) f fd) (T : Txt BN mg) : FnOk P w K mg base CX0 1 f fd ["_law_book", "_law_rows_here", "_law_number"] spSpoil := by
  refine F.ok sc__law_spoiled (fun vs H Q E h => ?_) (fun cdv A outer s H vs Q E hr h => ?_)
  · obtain ⟨c, b, bk, xs, n, rfl, _⟩ := h
    rfl
  obtain ⟨c, b, bk, xs, n, rfl, hC, hbl, hB, hxl, hn, q⟩ := h
  refine ⟨_, (pss_cons (ps_join (ps_set (i := 3) sc__law_spoiled.nd rfl (Or.inl rfl) (pe_op op_mod (pv 2) (pe_op op_add (pe_callB (call_lenK (K := K) rfl) rfl (T.nb "len" (by decide)) (by decide +kernel) (pa_cons (pv 0) pa_nil)) pe_int))))
      (pss_cons (ps_set (i := 4) sc__law_spoiled.nd rfl (Or.inl rfl) (pe_op op_fdivP (pv 2) pe_int))
      (pss_cons (ps_set (i := 5) sc__law_spoiled.nd rfl (Or.inl rfl) (pe_ix (ix_listK (K := K) rfl) (pe_lst (pa_cons (pe_op op_sub (pe_un un_neg pe_int) (pe_op op_mod (pv 4) pe_int)) (pa_cons (pe_callB (call_lenK (K := K) rfl) rfl (T.nb "len" (by decide)) (by decide +kernel) (pa_cons (pv 1) pa_nil)) (pa_cons (pe_op op_add (pe_callB (call_lenK (K := K) rfl) rfl (T.nb "len" (by decide)) (by decide +kernel) (pa_cons (pv 1) pa_nil)) (pv 4)) (pa_cons (pe_op op_mod (pv 4) (pe_callB (call_max2 rfl) rfl (T.nb "max" (by decide)) (by decide +kernel) (pa_cons pe_int (pa_cons (pe_callB (call_lenK (K := K) rfl) rfl (T.nb "len" (by decide)) (by decide +kernel) (pa_cons (pv 1) pa_nil)) pa_nil)))) pa_nil))))) (pe_op op_mod (pe_op op_fdivP (pv 2) pe_int) pe_int) (fun _ _ => rfl)))
      (pss_cons (ps_if (pt_cmpR op_eq (pe_op op_mod (pv 2) pe_int) pe_int (nomark _)) (pss_one (ps_ret (pe_op op_cat (pe_op op_cat (pe_slice (sl_listK (K := K) rfl) (pv 0) po_none (po_some (pv 3))) (pe_lst (pa_cons (pv 5) pa_nil))) (pe_slice (sl_listK (K := K) rfl) (pv 0) (po_some (pv 3)) po_none)))) pss_nil)
      (pss_cons (ps_if (pt_cmpR op_eq (pe_op op_mod (pv 2) pe_int) pe_int (nomark _)) (pss_one (ps_ret (pe_op op_cat (pe_op op_cat (pe_slice (sl_listK (K := K) rfl) (pv 0) po_none (po_some (pv 3))) (pe_slice (sl_listK (K := K) rfl) (pv 0) (po_some (pv 3)) (po_some (pe_op op_add (pv 3) pe_int)))) (pe_slice (sl_listK (K := K) rfl) (pv 0) (po_some (pv 3)) po_none)))) pss_nil)
      (pss_one (ps_ret (pe_op op_cat (pe_slice (sl_listK (K := K) rfl) (pv 0) po_none (po_some (pv 3))) (pe_slice (sl_listK (K := K) rfl) (pv 0) (po_some (pe_op op_add (pv 3) pe_int)) po_none))))))))), ?_⟩
  have hat3 : ∀ (r : Int), ∃ od : Int, atI [V.int (-1 - n / 64 % 9), .int (xs.length : Nat), .int ((xs.length : Nat) + n / 64), .int r] (n / 41 % 4) = some (.int od) := fun r => by
    have q4 : 0 <= n / 41 % 4 /\ n / 41 % 4 < 4 := ⟨Int.emod_nonneg _ (by decide), Int.emod_lt_of_pos _ (by decide)⟩
    have : n / 41 % 4 = 0 \/ n / 41 % 4 = 1 \/ n / 41 % 4 = 2 \/ n / 41 % 4 = 3 := by omega
    rcases this with e | e | e | e
    · exact ⟨_, by rw [e]; rfl⟩
    · exact ⟨_, by rw [e]; rfl⟩
    · exact ⟨_, by rw [e]; rfl⟩
    · exact ⟨_, by rw [e]; rfl⟩
  refine ⟨fun σ H' => ∃ kk : Nat, σ = [some (.ref c), some (.ref b), some (.int n), some (.int (kk : Int)), none, none] /\ H' = H, ?_, ?_⟩
  · refine ⟨_, rfl, _, rfl, c, _, rfl, .inl (SqL.of hC), _, _, rfl, rfl, _, _, rfl, rfl, (by show (0 : Int) < ((bk.map V.int).length : Int) + 1; omega), ?_⟩
    refine ⟨(n % ((((bk.map V.int).length : Nat) : Int) + 1)).toNat, ?_, rfl⟩
    rw [Int.toNat_of_nonneg (Int.emod_nonneg _ (by omega))]
    rfl
  rintro σ H1 ⟨kk, rfl, eH⟩
  cases eH
  refine ⟨_, rfl, _, _, rfl, rfl, div64 (by decide) (by decide), ?_⟩
  refine ⟨_, rfl, _, rfl, _, _, rfl, rfl, (by show (0 : Int) < 9; decide), _, _, rfl, rfl, _, rfl, b, _, rfl, .inl (SqL.of hB), _, rfl, b, _, rfl, .inl (SqL.of hB), _, rfl, _, _, rfl, rfl, _, rfl, _, rfl, b, _, rfl, .inl (SqL.of hB), 1, (xs.length : Int), rfl, _, _, rfl, rfl, (by show (0 : Int) < if (xs.length : Int) > 1 then (xs.length : Int) else 1; split <;> omega), (by show 4 <= sizeLine; decide), fun p0 hp0 => ?_⟩
  obtain ⟨od, hod⟩ := hat3 (n / 64 % (if (xs.length : Int) > 1 then (xs.length : Int) else 1))
  refine ⟨_, rfl, _, _, rfl, rfl, div64 (by decide) (by decide), _, _, rfl, rfl, (by show (0 : Int) < 4; decide), p0, _, _, _, rfl, rfl, SqL.of upd_same, hod, ?_⟩
  have s0 := Same.new hp0 (.lst [V.int (-1 - n / 64 % 9), .int (xs.length : Nat), .int ((xs.length : Nat) + n / 64), .int (n / 64 % (if (xs.length : Int) > 1 then (xs.length : Int) else 1))])
  have hC0 := s0 _ _ hC
  generalize upd H p0 (.lst [V.int (-1 - n / 64 % 9), .int (xs.length : Nat), .int ((xs.length : Nat) + n / 64), .int (n / 64 % (if (xs.length : Int) > 1 then (xs.length : Int) else 1))]) = H0 at *
  have cat : ∀ (xs ys : List Int), (xs.map V.int) ++ (ys.map V.int) = (xs ++ ys).map V.int := fun xs ys => by rw [List.map_append]
  have sz : ∀ n : Nat, n <= 200 -> n <= sizeLine := fun n h => Nat.le_trans h (by rw [sizeLine_eq]; decide)
  have fin : ∀ {H1 : Hp}, Same H0 H1 -> ∀ (l m : Addr) (xs ys : List Int), H1 l = some (.lst (xs.map V.int)) -> H1 m = some (.lst (ys.map V.int)) -> xs.length + ys.length <= 41 ->
      rCat (.ref l) (.ref m) H1 Q := fun {H1} s1 l m xs ys h1 h2 h3 =>
    ⟨l, m, _, _, rfl, rfl, h1, h2, sz _ (by rw [List.length_map, List.length_map]; omega), fun p hp => q p (xs ++ ys) _ (s0.trans (s1.trans (Same.new hp _))) (by
      cases e : H p with
      | none => rfl
      | some o => rw [(s0.trans s1) _ _ e] at hp; cases hp) (by rw [upd_same, cat]) (by rw [List.length_append]; exact h3)⟩
  have l2 := cut_to_len bk kk
  have l3 := cut_from_len bk kk
  have hone := cut_mid_len bk kk
  have l4 := cut_from_len bk (kk + 1)
  rw [show ((kk + 1 : Nat) : Int) = (kk : Int) + 1 by omega] at l4
  refine ⟨_, rfl, _, _, rfl, rfl, (by show (0 : Int) < 3; decide), rfl, _, rfl, ?_⟩
  refine iteD (fun _ => ?_) (fun _ => ?_)
  · refine ⟨_, rfl, _, rfl, _, rfl, c, _, rfl, SqL.of hC0, fun p1 hp1 => ?_⟩
    rw [cutL_map]
    have s1 := Same.new hp1 (.lst ((cutL bk none (some (kk : Int))).map V.int))
    refine ⟨_, rfl, (by show 1 <= sizeLine; decide), fun p2 hp2 => ?_⟩
    have s2 := Same.new hp2 (.lst [.int od])
    refine ⟨p1, p2, _, _, rfl, rfl, s2 _ _ upd_same, upd_same, sz _ (by rw [List.length_map, List.length_singleton]; omega), fun p3 hp3 => ?_⟩
    have s3 := Same.new hp3 (.lst ((cutL bk none (some (kk : Int))).map V.int ++ [.int od]))
    have s13 := s1.trans (s2.trans s3)
    refine ⟨_, rfl, _, rfl, _, rfl, c, _, rfl, SqL.of (s13 _ _ hC0), fun p4 hp4 => ?_⟩
    rw [cutL_map]
    have s4 := Same.new hp4 (.lst ((cutL bk (some (kk : Int)) none).map V.int))
    exact fin (s13.trans s4) p3 p4 (cutL bk none (some (kk : Int)) ++ [od]) (cutL bk (some (kk : Int)) none) (by rw [s4 _ _ upd_same, List.map_append]; rfl) upd_same (by rw [List.length_append, List.length_singleton]; omega)
  refine ⟨_, rfl, _, _, rfl, rfl, (by show (0 : Int) < 3; decide), rfl, _, rfl, ?_⟩
  refine iteD (fun _ => ?_) (fun _ => ?_)
  · refine ⟨_, rfl, _, rfl, _, rfl, c, _, rfl, SqL.of hC0, fun p1 hp1 => ?_⟩
    rw [cutL_map]
    have s1 := Same.new hp1 (.lst ((cutL bk none (some (kk : Int))).map V.int))
    refine ⟨_, rfl, _, rfl, _, rfl, _, rfl, _, _, rfl, rfl, _, rfl, c, _, rfl, SqL.of (s1 _ _ hC0), fun p2 hp2 => ?_⟩
    rw [cutL_map]
    have s2 := Same.new hp2 (.lst ((cutL bk (some (kk : Int)) (some ((kk : Int) + 1))).map V.int))
    refine ⟨p1, p2, _, _, rfl, rfl, s2 _ _ upd_same, upd_same, sz _ (by rw [List.length_map, List.length_map]; omega), fun p3 hp3 => ?_⟩
    have s3 := Same.new hp3 (.lst ((cutL bk none (some (kk : Int))).map V.int ++ (cutL bk (some (kk : Int)) (some ((kk : Int) + 1))).map V.int))
    have s13 := s1.trans (s2.trans s3)
    refine ⟨_, rfl, _, rfl, _, rfl, c, _, rfl, SqL.of (s13 _ _ hC0), fun p4 hp4 => ?_⟩
    rw [cutL_map]
    have s4 := Same.new hp4 (.lst ((cutL bk (some (kk : Int)) none).map V.int))
    exact fin (s13.trans s4) p3 p4 (cutL bk none (some (kk : Int)) ++ cutL bk (some (kk : Int)) (some ((kk : Int) + 1))) (cutL bk (some (kk : Int)) none) (by rw [s4 _ _ upd_same, List.map_append]) upd_same (by rw [List.length_append]; omega)
  refine ⟨_, rfl, _, rfl, _, rfl, c, _, rfl, SqL.of hC0, fun p1 hp1 => ?_⟩
  rw [cutL_map]
  have s1 := Same.new hp1 (.lst ((cutL bk none (some (kk : Int))).map V.int))
  refine ⟨_, rfl, _, rfl, _, _, rfl, rfl, _, rfl, c, _, rfl, SqL.of (s1 _ _ hC0), fun p2 hp2 => ?_⟩
  rw [cutL_map]
  have s2 := Same.new hp2 (.lst ((cutL bk (some ((kk : Int) + 1)) none).map V.int))
  exact fin (s1.trans s2) p1 p2 (cutL bk none (some (kk : Int))) (cutL bk (some ((kk : Int) + 1)) none) (s2 _ _ upd_same) upd_same (by omega)
end
end Mw
namespace Mw
open PySem L2
section
variable {P : Program} {w : World} {K : PySem.W.Frag} {mg : Str -> Option Value} {base : Heap} {f : Addr} {fd : FuncData} {cls : Nat -> Addr} {ks : List Nat} {np ns nf tc hC tm wb : Addr} {C_Hand C_PlainHand C_MarginHand C_HalvingHand C_SidesHand X_MendError X_NoFraction X_NoPoint X_NoSide X_NoRow X_NoTable X_NoText X_NotParted X_OneSide X_TooMany X_WrongBook T_code T_tab : Addr}
theorem sc__law_first_wrong : FnScope ["_law_hand", "_law_rows_here", "_law_book", "_law_place", "_law_number"] ["_law_hand", "_law_rows_here", "_law_book"] (defScope (top 41)) := ⟨rfl, rfl, rfl, by decide +kernel, rfl, by decide +kernel, by decide +kernel⟩
theorem ok__law_first_wrong (F : Fun K "_law_first_wrong" "_law_first_wrong" (top 41) f fd) (T : Txt BN mg) (gm_put : MCal P w K mg base 20 (Kds cls ks) "put" ["self", "point", "side"] (spPutG K cls ks np ns)) : FnOk P w K mg base CX0 21 f fd ["_law_hand", "_law_rows_here", "_law_book"] (spFW K cls ks) := by
  refine F.ok sc__law_first_wrong (fun vs H Q E h => ?_) (fun cdv A outer s H vs Q E hr h => ?_)
  · obtain ⟨a, b, c, as, rs, bk, g, rfl, _⟩ := h
    rfl
  obtain ⟨a, b, c, as, rs, bk, g, rfl, hB, q⟩ := h
  refine ⟨_, (pss_cons (ps_for PassesOwn.never rfl (pi_enum rfl (T.nb "enumerate" (by decide)) (pa_cons (pv 2) pa_nil)) (pg_tupK (K := K) (n := 2) rfl rfl (pgs_cons (pg_name (i := 3) sc__law_first_wrong.nd rfl (Or.inl rfl)) (pgs_cons (pg_name (i := 4) sc__law_first_wrong.nd rfl (Or.inl rfl)) pgs_nil))) (pss_cons (ps_if (PW.pt (pw_or (pt_cmpR op_lt (pv 4) pe_int (nomark _)) (pw_or1 (pt_cmpR op_ge (pv 4) (pe_callB (call_lenK (K := K) rfl) rfl (T.nb "len" (by decide)) (by decide +kernel) (pa_cons (pv 1) pa_nil)) (nomark _))))) (pss_one (ps_ret (pv 3))) pss_nil)
      (pss_one (ps_if (pt_not (pt_val (pe_methG (pv 0) gm_put (hr.mono (by decide)) passG_never (pa_cons (pe_ix (ix_tupK (K := K) rfl) (pe_ix (ix_listK (K := K) rfl) (pv 1) (pv 4) (fun _ _ => rfl)) pe_int (fun _ _ => rfl)) (pa_cons (pe_ix (ix_tupK (K := K) rfl) (pe_ix (ix_listK (K := K) rfl) (pv 1) (pv 4) (fun _ _ => rfl)) pe_int (fun _ _ => rfl)) pa_nil))))) (pss_one (ps_ret (pv 3))) pss_nil))))
      (pss_one (ps_ret pe_non))), ?_⟩
  have hal : as.length = rs.length := Paired.length hB.at_
  have hbl := hB.len
  have hge := hB.err
  refine ⟨_, rfl, c, rfl, ⟨_, SqL.of hB.book⟩, ?_⟩
  refine for_enum (xs := bk.map V.int) (fun i σ H' => ∃ (v3 v4 : Option V) (g' : Gnd), σ = [some (.ref a), some (.ref b), some (.ref c), v3, v4] /\ Kp [a] H H' /\ goes rs g bk i = some g' /\ GAt cls ks H' a g')
    ⟨none, none, g, rfl, Kp.refl, rfl, hB.hand⟩
    (fun i σ H' _ ⟨_, _, _, _, kp, _⟩ => SqL.of (kp.lst hB.book)) ?_ ?_
  · rintro i x T0 σ H' hx hT0 ⟨v3, v4, g', rfl, kp, hg, hA'⟩
    obtain ⟨n, hn, rfl⟩ := of_map hx
    have hil : i < bk.length := (List.getElem?_eq_some_iff.mp hn).1
    have sT := Same.new hT0 (.tup [.int (i : Nat), .int n])
    have hAT := hA'.same sT
    have kpT : Kp [a] H (upd H' T0 (.tup [.int (i : Nat), .int n])) := kp.trans (Kp.of sT)
    have hTT : upd H' T0 (.tup [.int (i : Nat), .int n]) T0 = some (.tup [.int (i : Nat), .int n]) := upd_same
    generalize upd H' T0 (.tup [.int (i : Nat), .int n]) = HT at *
    have hBT := kpT.lst hB.rows
    have hRT := kpT.rows hB.at_
    obtain ⟨hok, hfit, herr⟩ := goes_ok hB.ok hB.fit hg
    have hsm : g'.Small 0 := Gnd.small_of (by omega)
    have stop : goes rs g bk (i + 1) = none -> ∀ H2, Kp [a] H H2 -> GAt cls ks H2 a g' -> Q (.int (i : Nat)) H2 := fun hz H2 k2 hA2 => q g' (some i) H2 k2 hA2 (.at hil hg hz)
    refine ⟨T0, _, rfl, SqT.of hTT, rfl, _, _, rfl, _, _, rfl, rfl, ?_⟩
    refine ⟨_, rfl, _, _, rfl, rfl, _, rfl, ?_⟩
    refine iteD (fun z0 => ?_) (fun z0 => ?_)
    · exact ⟨_, rfl, stop (goes_out hn fun w => by have : n < 0 := z0; omega) HT kpT hAT⟩
    refine ⟨_, rfl, _, rfl, b, _, rfl, .inl (SqL.of hBT), _, _, rfl, rfl, _, rfl, ?_⟩
    have hlm : ((as.map V.ref).length : Int) = (rs.length : Int) := by rw [List.length_map, hal]
    refine iteD (fun z1 => ?_) (fun z1 => ?_)
    · exact ⟨_, rfl, stop (goes_out hn fun w => by have : ((as.map V.ref).length : Int) <= n := z1; omega) HT kpT hAT⟩
    have z1' : n < (rs.length : Int) := by have : ¬ ((as.map V.ref).length : Int) <= n := z1; omega
    have z0' : 0 <= n := by have : ¬ n < 0 := z0; omega
    obtain ⟨m, rfl⟩ : ∃ m : Nat, n = (m : Int) := ⟨n.toNat, by omega⟩
    have hna : m < as.length := by omega
    obtain ⟨r, hr1, p, hr2, hr3⟩ := paired_get hRT (List.getElem?_eq_getElem hna)
    have hat : atI (as.map V.ref) (m : Int) = some (.ref as[m]) := atI_nat (by rw [List.getElem?_map, List.getElem?_eq_getElem hna]; rfl)
    obtain ⟨C, dx, fs, hi, hk, hno⟩ := hAT.ins
    have hf := hfit r (List.mem_of_getElem? hr1)
    refine ⟨_, rfl, a, C, dx, fs, rfl, hi, hk, hno _ (by decide +kernel), _, rfl, _, rfl, b, _, _, _, rfl, rfl, SqL.of hBT, hat, as[m], _, _, _, rfl, rfl, hr2, rfl, _, rfl, _, rfl, b, _, _, _, rfl, rfl, SqL.of hBT, hat, as[m], _, _, _, rfl, rfl, hr2, rfl, ⟨_, _, hi⟩, a, p, g', r.1, r.2, rfl, hAT, hok, hsm, hr3, fun z => absurd (Gnd.pt_len hf.1) z, fun _ z => (by rw [hf.2] at z; cases z), fun _ _ => ⟨hf.1, fun H3 k3 hA3 => ?_⟩⟩
    refine ⟨_, rfl, ?_⟩
    cases hw : g'.wrong r.1 r.2 with
    | true =>
      refine iteF ?_
      exact ⟨_, _, g'.step r.1 r.2, rfl, kpT.trans k3, goes_step hg hn z0' (by rw [Int.toNat_natCast]; exact hr1) hw, hA3⟩
    | false =>
      refine iteT ?_
      have es : g'.step r.1 r.2 = g' := by rw [Gnd.step_eq, if_neg (by rw [hw]; decide)]
      rw [es] at hA3
      exact ⟨_, rfl, stop (goes_right hg hn z0' (by rw [Int.toNat_natCast]; exact hr1) hw) H3 (kpT.trans k3) hA3⟩
  · rintro σ H' ⟨v3, v4, g', rfl, kp, hg, hA'⟩
    rw [List.length_map] at hg
    exact q g' none H' kp hA' (.all hg)
end
end Mw
namespace Mw
open PySem L2
section
variable {P : Program} {w : World} {K : PySem.W.Frag} {mg : Str -> Option Value} {base : Heap} {f : Addr} {fd : FuncData} {cls : Nat -> Addr} {ks : List Nat} {np ns nf tc hC tm wb : Addr} {C_Hand C_PlainHand C_MarginHand C_HalvingHand C_SidesHand X_MendError X_NoFraction X_NoPoint X_NoSide X_NoRow X_NoTable X_NoText X_NotParted X_OneSide X_TooMany X_WrongBook T_code T_tab : Addr}
theorem sc__law_wrong_book : FnScope ["_law_caught", "_law_place", "_law_one", "_law_two", "_law_three"] ["_law_caught", "_law_place"] (defScope (top 42)) := ⟨rfl, rfl, rfl, by decide +kernel, rfl, by decide +kernel, by decide +kernel⟩
theorem ok__law_wrong_book (F : Fun K "_law_wrong_book" "_law_wrong_book" (top 42) f fd) (T : Txt BN mg) (PR : Prog K mg C_Hand C_PlainHand C_MarginHand C_HalvingHand C_SidesHand X_MendError X_NoFraction X_NoPoint X_NoSide X_NoRow X_NoTable X_NoText X_NotParted X_OneSide X_TooMany X_WrongBook T_code T_tab) (c__law_is : Cal P w K mg base 1 "_law_is" ["_law_found", "_law_due"] spIs) : FnOk P w K mg base CX0 2 f fd ["_law_caught", "_law_place"] (spWB X_WrongBook) := by
  refine F.ok sc__law_wrong_book (fun vs H Q E h => ?_) (fun cdv A outer s H vs Q E hr h => ?_)
  · obtain ⟨e, d, i, rfl, _⟩ := h
    rfl
  obtain ⟨e, d, i, rfl, hE, hD, q⟩ := h
  refine ⟨_, (pss_cons (ps_set (i := 2) sc__law_wrong_book.nd rfl (Or.inl rfl) (pe_or (pe_callB (call_isiD (K := K) rfl) rfl (T.nb "isinstance" (by decide)) (by decide +kernel) (pa_cons (pv 0) (pa_cons (pe_cls rfl PR.x_NoPoint.g) pa_nil))) (pe_or (pe_callB (call_isiD (K := K) rfl) rfl (T.nb "isinstance" (by decide)) (by decide +kernel) (pa_cons (pv 0) (pa_cons (pe_cls rfl PR.x_NoSide.g) pa_nil))) (pe_one (pe_callB (call_isiD (K := K) rfl) rfl (T.nb "isinstance" (by decide)) (by decide +kernel) (pa_cons (pv 0) (pa_cons (pe_cls rfl PR.x_NoFraction.g) pa_nil)))))))
      (pss_cons (ps_set (i := 3) sc__law_wrong_book.nd rfl (Or.inl rfl) (pe_or (pe_callB (call_isiD (K := K) rfl) rfl (T.nb "isinstance" (by decide)) (by decide +kernel) (pa_cons (pv 0) (pa_cons (pe_cls rfl PR.x_NoRow.g) pa_nil))) (pe_or (pe_callB (call_isiD (K := K) rfl) rfl (T.nb "isinstance" (by decide)) (by decide +kernel) (pa_cons (pv 0) (pa_cons (pe_cls rfl PR.x_NoTable.g) pa_nil))) (pe_one (pe_callB (call_isiD (K := K) rfl) rfl (T.nb "isinstance" (by decide)) (by decide +kernel) (pa_cons (pv 0) (pa_cons (pe_cls rfl PR.x_NoText.g) pa_nil)))))))
      (pss_cons (ps_set (i := 4) sc__law_wrong_book.nd rfl (Or.inl rfl) (pe_or (pe_callB (call_isiD (K := K) rfl) rfl (T.nb "isinstance" (by decide)) (by decide +kernel) (pa_cons (pv 0) (pa_cons (pe_cls rfl PR.x_NotParted.g) pa_nil))) (pe_or (pe_callB (call_isiD (K := K) rfl) rfl (T.nb "isinstance" (by decide)) (by decide +kernel) (pa_cons (pv 0) (pa_cons (pe_cls rfl PR.x_OneSide.g) pa_nil))) (pe_one (pe_callB (call_isiD (K := K) rfl) rfl (T.nb "isinstance" (by decide)) (by decide +kernel) (pa_cons (pv 0) (pa_cons (pe_cls rfl PR.x_TooMany.g) pa_nil)))))))
      (pss_cons (ps_if (PW.pt (pw_or (pt_not (pt_val (pe_callB (call_isiD (K := K) rfl) rfl (T.nb "isinstance" (by decide)) (by decide +kernel) (pa_cons (pv 0) (pa_cons (pe_cls rfl PR.x_WrongBook.g) pa_nil))))) (pw_or (pt_not (pt_val (pe_callB (call_isiD (K := K) rfl) rfl (T.nb "isinstance" (by decide)) (by decide +kernel) (pa_cons (pv 0) (pa_cons (pe_ty T "ValueError") pa_nil))))) (pw_or (pt_val (pv 2)) (pw_or (pt_val (pv 3)) (pw_or1 (pt_val (pv 4)))))))) (pss_one (ps_ret pe_bl)) pss_nil)
      (pss_one (ps_ret (pe_cal c__law_is (hr.mono (by decide)) rfl (pa_cons (pe_xfld (pv 0) rfl) (pa_cons (pv 1) pa_nil))))))))), ?_⟩
  refine ⟨_, rfl, e, X_WrongBook, _, _, _, d, rfl, rfl, hE, PR.a_WrongBook, PR.k_WrongBook_NoPoint, _, rfl, ?_⟩
  refine iteF ?_
  refine ⟨_, rfl, e, X_WrongBook, _, _, _, d, rfl, rfl, hE, PR.a_WrongBook, PR.k_WrongBook_NoSide, _, rfl, ?_⟩
  refine iteF ?_
  refine ⟨_, rfl, e, X_WrongBook, _, _, _, d, rfl, rfl, hE, PR.a_WrongBook, PR.k_WrongBook_NoFraction, ?_⟩
  refine ⟨_, rfl, e, X_WrongBook, _, _, _, d, rfl, rfl, hE, PR.a_WrongBook, PR.k_WrongBook_NoRow, _, rfl, ?_⟩
  refine iteF ?_
  refine ⟨_, rfl, e, X_WrongBook, _, _, _, d, rfl, rfl, hE, PR.a_WrongBook, PR.k_WrongBook_NoTable, _, rfl, ?_⟩
  refine iteF ?_
  refine ⟨_, rfl, e, X_WrongBook, _, _, _, d, rfl, rfl, hE, PR.a_WrongBook, PR.k_WrongBook_NoText, ?_⟩
  refine ⟨_, rfl, e, X_WrongBook, _, _, _, d, rfl, rfl, hE, PR.a_WrongBook, PR.k_WrongBook_NotParted, _, rfl, ?_⟩
  refine iteF ?_
  refine ⟨_, rfl, e, X_WrongBook, _, _, _, d, rfl, rfl, hE, PR.a_WrongBook, PR.k_WrongBook_OneSide, _, rfl, ?_⟩
  refine iteF ?_
  refine ⟨_, rfl, e, X_WrongBook, _, _, _, d, rfl, rfl, hE, PR.a_WrongBook, PR.k_WrongBook_TooMany, ?_⟩
  refine ⟨_, rfl, e, X_WrongBook, _, _, _, d, rfl, rfl, hE, PR.a_WrongBook, PR.k_WrongBook_WrongBook, _, rfl, ?_⟩
  refine iteF ?_
  refine ⟨_, rfl, e, X_WrongBook, _, _, _, d, rfl, rfl, hE, PR.a_WrongBook, PR.k_WrongBook_ValueError, _, rfl, ?_⟩
  refine iteF ?_
  refine ⟨_, rfl, _, rfl, iteF ?_⟩
  refine ⟨_, rfl, _, rfl, iteF ?_⟩
  refine ⟨_, rfl, _, rfl, iteF ?_⟩
  exact ⟨_, rfl, e, X_WrongBook, d, _, i, rfl, hE, hD, PR.i_WrongBook.p, rfl, _, rfl, i, rfl, q⟩
end
end Mw
namespace Mw
open PySem L2
section
variable {P : Program} {w : World} {K : PySem.W.Frag} {mg : Str -> Option Value} {base : Heap} {f : Addr} {fd : FuncData} {cls : Nat -> Addr} {ks : List Nat} {np ns nf tc hC tm wb : Addr} {C_Hand C_PlainHand C_MarginHand C_HalvingHand C_SidesHand X_MendError X_NoFraction X_NoPoint X_NoSide X_NoRow X_NoTable X_NoText X_NotParted X_OneSide X_TooMany X_WrongBook T_code T_tab : Addr}
theorem sc__law_replayed : FnScope ["_law_hand", "_law_other", "_law_rows_here", "_law_book", "_law_place", "_law_handed", "_law_caught", "_law_found", "error"] ["_law_hand", "_law_other", "_law_rows_here", "_law_book"] (defScope (top 43)) := ⟨rfl, rfl, rfl, by decide +kernel, rfl, by decide +kernel, by decide +kernel⟩
theorem ok__law_replayed (F : Fun K "_law_replayed" "_law_replayed" (top 43) f fd) (T : Txt BN mg) (PR : Prog K mg C_Hand C_PlainHand C_MarginHand C_HalvingHand C_SidesHand X_MendError X_NoFraction X_NoPoint X_NoSide X_NoRow X_NoTable X_NoText X_NotParted X_OneSide X_TooMany X_WrongBook T_code T_tab) (c__law_first_wrong : Cal P w K mg base 21 "_law_first_wrong" ["_law_hand", "_law_rows_here", "_law_book"] (spFW K cls ks)) (c_replay : CalX P w K mg base 21 "replay" ["hand", "rows", "book"] (spReplay K cls ks X_WrongBook)) (c__law_is : Cal P w K mg base 1 "_law_is" ["_law_found", "_law_due"] spIs) (c__law_wrong_book : Cal P w K mg base 2 "_law_wrong_book" ["_law_caught", "_law_place"] (spWB X_WrongBook)) (gm_weights : MCal P w K mg base 20 (Kds cls ks) "weights" ["self"] (spWtsG cls ks)) (gm_mistakes : MCal P w K mg base 20 (Kds cls ks) "mistakes" ["self"] (spErrG cls ks)) : FnOk P w K mg base CX0 23 f fd ["_law_hand", "_law_other", "_law_rows_here", "_law_book"] (spRepl K cls ks) := by
  refine F.ok sc__law_replayed (fun vs H Q E h => ?_) (fun cdv A outer s H vs Q E hr h => ?_)
  · obtain ⟨x, y, b, c, as, rs, bk, g, rfl, _⟩ := h
    rfl
  obtain ⟨x, y, b, c, as, rs, bk, g, rfl, hxy, hB, hY, q⟩ := h
  refine ⟨_, (pss_cons (ps_set (i := 4) sc__law_replayed.nd rfl (Or.inl rfl) (pe_cal c__law_first_wrong (hr.mono (by decide)) rfl (pa_cons (pv 1) (pa_cons (pv 2) (pa_cons (pv 3) pa_nil)))))
      (pss_cons (ps_set (i := 5) sc__law_replayed.nd rfl (Or.inl rfl) (pe_lst (pa_cons (pe_callTy (call_listK (K := K) rfl) rfl (T.nb "list" (by decide)) (by decide +kernel) (pa_cons (pv 2) pa_nil)) (pa_cons (pe_callTy (call_listK (K := K) rfl) rfl (T.nb "list" (by decide)) (by decide +kernel) (pa_cons (pv 3) pa_nil)) pa_nil))))
      (pss_cons (ps_set (i := 6) sc__law_replayed.nd rfl (Or.inl rfl) pe_non)
      (pss_cons (ps_set (i := 7) sc__law_replayed.nd rfl (Or.inl rfl) pe_non)
      (pss_cons (ps_join (ps_try (i := 8) rfl rfl rfl PR.x_MendError.g sc__law_replayed.nd rfl rfl (fun _ _ => (pss_one (ps_set (i := 7) sc__law_replayed.nd rfl (Or.inl rfl) (pe_calG c_replay (hr.mono (by decide)) rfl tryC_pass (pa_cons (pv 0) (pa_cons (pe_ix (ix_listK (K := K) rfl) (pv 5) pe_int (fun _ _ => rfl)) (pa_cons (pe_ix (ix_listK (K := K) rfl) (pv 5) pe_int (fun _ _ => rfl)) pa_nil))))))) (fun _ _ => (pss_one (ps_set (i := 6) sc__law_replayed.nd rfl (Or.inl rfl) (pv 8))))))
      (pss_cons (ps_if (PW.pt (pw_or (pt_cmpR (op_neDeep 4 (K := K) rfl hr.units8 (by decide)) (pv 5) (pe_lst (pa_cons (pv 2) (pa_cons (pv 3) pa_nil))) (nomark _)) (pw_or (pt_cmpR (op_neDeep 1 (K := K) rfl hr.units8 (by decide)) (pe_methG0 (pv 0) gm_weights (hr.mono (by decide)) passG_never) (pe_methG0 (pv 1) gm_weights (hr.mono (by decide)) passG_never) (nomark _)) (pw_or1 (pt_cmpR op_ne (pe_methG0 (pv 0) gm_mistakes (hr.mono (by decide)) passG_never) (pe_methG0 (pv 1) gm_mistakes (hr.mono (by decide)) passG_never) (nomark _)))))) (pss_one (ps_ret pe_bl)) pss_nil)
      (pss_cons (ps_if (pt_cmpR op_isN (pv 4) pe_non (nomark _)) (pss_one (ps_ret (pe_and (pe_cmpR op_isN (pv 6) pe_non (nomark _)) (pe_one (pe_cal c__law_is (hr.mono (by decide)) rfl (pa_cons (pv 7) (pa_cons (pe_callB (call_lenK (K := K) rfl) rfl (T.nb "len" (by decide)) (by decide +kernel) (pa_cons (pv 3) pa_nil)) pa_nil))))))) pss_nil)
      (pss_one (ps_ret (pe_cal c__law_wrong_book (hr.mono (by decide)) rfl (pa_cons (pv 6) (pa_cons (pv 4) pa_nil)))))))))))), ?_⟩
  refine ⟨_, rfl, _, rfl, _, rfl, y, b, c, as, rs, bk, g, rfl, ⟨hY, hB.rows, hB.at_, hB.few, hB.book, hB.len, hB.ok, hB.fit, hB.err⟩, fun g' p H1 k1 hY1 hEn => ?_⟩
  have hX1 := hB.hand.keep k1 (by simp; exact hxy)
  have hR1 := k1.lst hB.rows
  have hC1 := k1.lst hB.book
  have hAt1 := k1.rows hB.at_
  refine ⟨_, rfl, b, _, rfl, .inl (SqL.of hR1), fun l1 hl1 => ?_⟩
  have s1 := Same.new hl1 (.lst (as.map V.ref))
  refine ⟨_, rfl, c, _, rfl, .inl (SqL.of (s1 _ _ hC1)), fun l2 hl2 => ?_⟩
  have s2 := Same.new hl2 (.lst (bk.map V.int))
  refine ⟨(by show 2 <= sizeLine; decide), fun l3 hl3 => ?_⟩
  have s3 := Same.new hl3 (.lst [.ref l1, .ref l2])
  have s13 := s1.trans (s2.trans s3)
  have hL1 := (s2.trans s3) _ _ (show upd H1 l1 (.lst (as.map V.ref)) l1 = _ from upd_same)
  have hL2 := s3 _ _ (show upd (upd H1 l1 (.lst (as.map V.ref))) l2 (.lst (bk.map V.int)) l2 = _ from upd_same)
  have hL3 : upd (upd (upd H1 l1 (.lst (as.map V.ref))) l2 (.lst (bk.map V.int))) l3 (.lst [.ref l1, .ref l2]) l3 = some (.lst [.ref l1, .ref l2]) := upd_same
  have k13 : Kp [y] H (upd (upd (upd H1 l1 (.lst (as.map V.ref))) l2 (.lst (bk.map V.int))) l3 (.lst [.ref l1, .ref l2])) := k1.trans (Kp.of s13)
  have hX3 := hX1.same s13
  have hY3 := hY1.same s13
  have hR3 := s13 _ _ hR1
  have hC3 := s13 _ _ hC1
  have hAt3 := hAt1.same s13
  generalize upd (upd (upd H1 l1 (.lst (as.map V.ref))) l2 (.lst (bk.map V.int))) l3 (.lst [.ref l1, .ref l2]) = H3 at *
  have k3 : Kp [x, y] H H3 := k13.mono (by simp)
  refine ⟨fun σ H' => ∃ (vc vf : V), σ = [some (.ref x), some (.ref y), some (.ref b), some (.ref c), some (plV p), some (.ref l3), some vc, some vf, none] /\ Kp [x, y] H H' /\ Kp [x] H3 H' /\ GAt cls ks H' x g' /\ GAt cls ks H' y g' /\
      (p = none -> vc = .non /\ vf = .int bk.length) /\ (∀ i, p = some i -> ∃ e d, vc = .ref e /\ H' e = some (excD X_WrongBook e (some d)) /\ H' d = some (.xd [("place", .int (i : Nat))])), ?_, ?_⟩
  · refine ⟨_, rfl, _, rfl, l3, _, _, _, rfl, rfl, SqL.of hL3, rfl, _, rfl, l3, _, _, _, rfl, rfl, SqL.of hL3, rfl, x, l1, l2, as, rs, bk, g, rfl, ⟨hX3, hL1, hAt3, hB.few, hL2, hB.len, hB.ok, hB.fit, hB.err⟩, fun g2 H4 k4 hX4 hE4 => ?_, fun g2 i d H4 k4 hX4 hE4 hD => ?_⟩
    · obtain ⟨rfl, ep⟩ := ends_uniq hE4 hEn
      exact ⟨_, _, rfl, k3.trans (k4.mono (by simp)), k4, hX4, hY3.keep k4 (by simp; exact fun z => hxy z.symm), fun _ => ⟨rfl, rfl⟩, (fun i e => by rw [<- ep] at e; cases e)⟩
    · obtain ⟨rfl, ep⟩ := ends_uniq hE4 hEn
      refine ⟨X_WrongBook, rfl, PR.e_WrongBook_MendError, fun e he => ?_⟩
      have s9 := Same.new he (excD X_WrongBook e (some d))
      have k9 : Kp [x] H3 (upd H4 e (excD X_WrongBook e (some d))) := k4.trans (Kp.of s9)
      refine ⟨_, rfl, ?_⟩
      refine ⟨_, _, rfl, k3.trans (k9.mono (by simp)), k9, hX4.same s9, hY3.keep k9 (by simp; exact fun z => hxy z.symm), (fun e => by rw [<- ep] at e; cases e), fun j ej => ?_⟩
      rw [<- ep] at ej
      cases ej
      exact ⟨e, d, rfl, upd_same, s9 _ _ hD⟩
  rintro σ H5 ⟨vc, vf, rfl, k5, k35, hX5, hY5, hp0, hp1⟩
  refine ⟨_, rfl, _, rfl, _, rfl, (by show 2 <= sizeLine; decide), fun l6 hl6 => ?_⟩
  have s6 := Same.new hl6 (.lst [.ref b, .ref c])
  have hL6 : upd H5 l6 (.lst [.ref b, .ref c]) l6 = some (.lst [.ref b, .ref c]) := upd_same
  have k6 : Kp [x, y] H (upd H5 l6 (.lst [.ref b, .ref c])) := k5.trans (Kp.of s6)
  have k36 : Kp [x] H3 (upd H5 l6 (.lst [.ref b, .ref c])) := k35.trans (Kp.of s6)
  have hX6 := hX5.same s6
  have hY6 := hY5.same s6
  have hp2 : ∀ i, p = some i -> ∃ e d, vc = .ref e /\ upd H5 l6 (.lst [.ref b, .ref c]) e = some (excD X_WrongBook e (some d)) /\ upd H5 l6 (.lst [.ref b, .ref c]) d = some (.xd [("place", .int (i : Nat))]) := fun i hi => by
    obtain ⟨e, d, a1, a2, a3⟩ := hp1 i hi
    exact ⟨e, d, a1, s6 _ _ a2, s6 _ _ a3⟩
  generalize upd H5 l6 (.lst [.ref b, .ref c]) = H6 at *
  have hC6 := k36.lst hC3
  refine ⟨⟨l3, l6, _, _, rfl, rfl, .inl ⟨SqL.of (k36.lst hL3), SqL.of hL6⟩, .cons (.inr ⟨l1, b, _, _, rfl, rfl, .inl ⟨SqL.of (k36.lst hL1), SqL.of (k36.lst hR3)⟩, rows_deep (k36.rows hAt3)⟩) (.cons (.inr ⟨l2, c, _, _, rfl, rfl, .inl ⟨SqL.of (k36.lst hL2), SqL.of hC6⟩, Deep.all (plain_ints _)⟩) .nil)⟩, ⟨_, rfl, iteF ?_⟩⟩
  obtain ⟨C, dx, fs, hi, hkd, hno⟩ := hX6.ins
  obtain ⟨C2, dx2, fs2, hi2, hkd2, hno2⟩ := hY6.ins
  refine ⟨_, rfl, x, C, dx, fs, rfl, hi, hkd, hno _ (by decide +kernel), ⟨_, _, hi⟩, x, g', rfl, hX6, fun t1 ht1 => ?_⟩
  refine ⟨_, rfl, y, C2, dx2, fs2, rfl, hi2, hkd2, hno2 _ (by decide +kernel), ⟨_, _, hi2⟩, y, g', rfl, hY6, fun t2 ht2 => ?_⟩
  obtain ⟨us, vs, e1, e2, e3⟩ := held_pair (K := K) ht1 ht2
  refine ⟨⟨t1, t2, us, vs, rfl, rfl, .inr ⟨e1, e2⟩, e3⟩, ⟨_, rfl, iteF ?_⟩⟩
  refine ⟨_, rfl, x, C, dx, fs, rfl, hi, hkd, hno _ (by decide +kernel), ⟨_, _, hi⟩, x, g', rfl, hX6, ?_⟩
  refine ⟨_, rfl, y, C2, dx2, fs2, rfl, hi2, hkd2, hno2 _ (by decide +kernel), ⟨_, _, hi2⟩, y, g', rfl, hY6, rfl, _, rfl, ?_⟩
  refine iteND (fun z => absurd rfl z) (fun _ => ?_)
  cases p with
  | none =>
    obtain ⟨rfl, rfl⟩ := hp0 rfl
    refine ⟨_, rfl, rfl, _, rfl, iteT ?_⟩
    refine ⟨_, rfl, rfl, _, rfl, iteT ?_⟩
    exact ⟨_, rfl, _, rfl, c, _, rfl, .inl (SqL.of hC6), bk.length, (by rw [List.length_map]; rfl), q g' none H6 k6 hX6 hEn⟩
  | some i =>
    obtain ⟨e, d, rfl, hE, hD⟩ := hp2 i rfl
    refine ⟨_, rfl, rfl, _, rfl, iteF ?_⟩
    exact ⟨_, rfl, _, rfl, e, d, i, rfl, hE, hD, q g' (some i) H6 k6 hX6 hEn⟩
end
end Mw
namespace Mw
open PySem L2
section
variable {P : Program} {w : World} {K : PySem.W.Frag} {mg : Str -> Option Value} {base : Heap} {f : Addr} {fd : FuncData} {cls : Nat -> Addr} {ks : List Nat} {np ns nf tc hC tm wb : Addr} {C_Hand C_PlainHand C_MarginHand C_HalvingHand C_SidesHand X_MendError X_NoFraction X_NoPoint X_NoSide X_NoRow X_NoTable X_NoText X_NotParted X_OneSide X_TooMany X_WrongBook T_code T_tab : Addr}
theorem sc_law : FnScope ["_law_script", "_law_head", "_law_kind", "_law_many", "_law_sides", "_law_rows_here", "_law_hand", "_law_book", "_law_new", "_law_k", "_law_bad"] ["_law_script"] (defScope (top 44)) := ⟨rfl, rfl, rfl, by decide +kernel, rfl, by decide +kernel, by decide +kernel⟩
theorem ok_law (F : Fun K "law" "law" (top 44) f fd) (T : Txt BN mg) (c__law_cell_at : Cal P w K mg base 1 "_law_cell_at" ["_law_script", "_law_k"] (spCell K)) (c__law_mixed : Cal P w K mg base 2 "_law_mixed" ["_law_script", "_law_k"] (spMixed2 K)) (c__law_rows : Cal P w K mg base 4 "_law_rows" ["_law_script", "_law_head", "_law_kind", "_law_many", "_law_sides"] (spRows5 K)) (c__law_made : Cal P w K mg base 22 "_law_made" ["_law_kind", "_law_many", "_law_sides"] (spMade cls ks)) (c__law_walk : Cal P w K mg base 22 "_law_walk" ["_law_hand", "_law_rows_here", "_law_most"] (spWk K cls ks)) (c__law_spoiled : Cal P w K mg base 1 "_law_spoiled" ["_law_book", "_law_rows_here", "_law_number"] spSpoil) (c__law_replayed : Cal P w K mg base 23 "_law_replayed" ["_law_hand", "_law_other", "_law_rows_here", "_law_book"] (spRepl K cls ks)) (gm_weights : MCal P w K mg base 20 (Kds cls ks) "weights" ["self"] (spWtsG cls ks)) (gm_mistakes : MCal P w K mg base 20 (Kds cls ks) "mistakes" ["self"] (spErrG cls ks)) : FnOk P w K mg base CX0 25 f fd ["_law_script"] (spLawT K (TbL · (cls 5))) := by
  refine F.ok sc_law (fun vs H Q E h => ?_) (fun cdv A outer s H vs Q E hr h => ?_)
  · obtain ⟨a, ns, rfl, _⟩ := h
    rfl
  obtain ⟨a, ns, rfl, hS, h63, hTs, q⟩ := h
  refine ⟨_, (pss_cons (ps_join (ps_set (i := 1) sc_law.nd rfl (Or.inl rfl) (pe_op op_mod (pe_op op_fdivP (pe_cal c__law_cell_at (hr.mono (by decide)) rfl (pa_cons (pv 0) (pa_cons pe_int pa_nil))) pe_int) (pe_op op_pow pe_int pe_int))))
      (pss_cons (ps_set (i := 2) sc_law.nd rfl (Or.inl rfl) (pe_op op_mod (pv 1) pe_int))
      (pss_cons (ps_set (i := 3) sc_law.nd rfl (Or.inl rfl) (pe_op op_add pe_int (pe_op op_mod (pe_op op_fdivP (pv 1) pe_int) (pe_ix (ix_listK (K := K) rfl) (pe_lst (pa_cons pe_int (pa_cons pe_int pa_nil))) (pe_callTy call_int1 rfl (T.nb "int" (by decide)) (by decide +kernel) (pa_cons (pe_cmpR op_eq (pv 2) pe_int (nomark _)) pa_nil)) (fun _ _ => rfl)))))
      (pss_cons (ps_join (ps_set (i := 4) sc_law.nd rfl (Or.inl rfl) (pe_ix (ix_listK (K := K) rfl) (pe_lst (pa_cons pe_int (pa_cons (pe_op op_add pe_int (pe_op op_mod (pe_op op_fdivP (pv 1) pe_int) pe_int)) pa_nil))) (pe_callTy call_int1 rfl (T.nb "int" (by decide)) (by decide +kernel) (pa_cons (pe_cmpR op_eq (pv 2) pe_int (nomark _)) pa_nil)) (fun _ _ => rfl))))
      (pss_cons (ps_set (i := 5) sc_law.nd rfl (Or.inl rfl) (pe_cal c__law_rows (hr.mono (by decide)) rfl (pa_cons (pv 0) (pa_cons (pv 1) (pa_cons (pv 2) (pa_cons (pv 3) (pa_cons (pv 4) pa_nil)))))))
      (pss_cons (ps_set (i := 6) sc_law.nd rfl (Or.inl rfl) (pe_cal c__law_made (hr.mono (by decide)) rfl (pa_cons (pv 2) (pa_cons (pv 3) (pa_cons (pv 4) pa_nil)))))
      (pss_cons (ps_set (i := 7) sc_law.nd rfl (Or.inl rfl) (pe_cal c__law_walk (hr.mono (by decide)) rfl (pa_cons (pv 6) (pa_cons (pv 5) (pa_cons pe_int pa_nil)))))
      (pss_cons (ps_set (i := 8) sc_law.nd rfl (Or.inl rfl) (pe_cal c__law_made (hr.mono (by decide)) rfl (pa_cons (pv 2) (pa_cons (pv 3) (pa_cons (pv 4) pa_nil)))))
      (pss_cons (ps_if (pt_not (pt_val (pe_cal c__law_replayed (hr.mono (by decide)) rfl (pa_cons (pv 8) (pa_cons (pe_cal c__law_made (hr.mono (by decide)) rfl (pa_cons (pv 2) (pa_cons (pv 3) (pa_cons (pv 4) pa_nil)))) (pa_cons (pv 5) (pa_cons (pv 7) pa_nil))))))) (pss_one (ps_ret pe_bl)) pss_nil)
      (pss_cons (ps_if (PW.pt (pw_or (pt_cmpR (op_neDeep 1 (K := K) rfl hr.units8 (by decide)) (pe_methG0 (pv 8) gm_weights (hr.mono (by decide)) passG_never) (pe_methG0 (pv 6) gm_weights (hr.mono (by decide)) passG_never) (nomark _)) (pw_or1 (pt_cmpR op_ne (pe_methG0 (pv 8) gm_mistakes (hr.mono (by decide)) passG_never) (pe_methG0 (pv 6) gm_mistakes (hr.mono (by decide)) passG_never) (nomark _))))) (pss_one (ps_ret pe_bl)) pss_nil)
      (pss_cons (ps_for PassesOwn.never rfl (pi_range1 rfl (T.nb "range" (by decide)) (pa_cons pe_int pa_nil)) (pg_name (i := 9) sc_law.nd rfl (Or.inl rfl)) (pss_cons (ps_set (i := 10) sc_law.nd rfl (Or.inl rfl) (pe_cal c__law_spoiled (hr.mono (by decide)) rfl (pa_cons (pv 7) (pa_cons (pv 5) (pa_cons (pe_cal c__law_mixed (hr.mono (by decide)) rfl (pa_cons (pv 0) (pa_cons (pe_op op_add (pv 9) pe_int) pa_nil))) pa_nil)))))
      (pss_one (ps_if (pt_not (pt_val (pe_cal c__law_replayed (hr.mono (by decide)) rfl (pa_cons (pe_cal c__law_made (hr.mono (by decide)) rfl (pa_cons (pv 2) (pa_cons (pv 3) (pa_cons (pv 4) pa_nil)))) (pa_cons (pe_cal c__law_made (hr.mono (by decide)) rfl (pa_cons (pv 2) (pa_cons (pv 3) (pa_cons (pv 4) pa_nil)))) (pa_cons (pv 5) (pa_cons (pv 10) pa_nil))))))) (pss_one (ps_ret pe_bl)) pss_nil))))
      (pss_one (ps_ret pe_bl))))))))))))), ?_⟩
  refine ⟨fun σ H' => ∃ hd : Int, 0 <= hd /\ σ = [some (.ref a), some (.int hd), none, none, none, none, none, none, none, none, none] /\ H' = H, ?_, ?_⟩
  · refine ⟨_, rfl, a, ns, 0, rfl, hS, by decide, _, _, rfl, rfl, div64 (by decide) (by decide), _, _, rfl, rfl, ⟨by decide, by decide, by decide⟩, _, _, rfl, rfl, (by show (0 : Int) < 10 ^ 15; decide), ?_⟩
    exact ⟨_, Int.emod_nonneg _ (by decide), rfl, rfl⟩
  rintro σ H0 ⟨hd, hd0, rfl, e0⟩
  subst e0
  have q5 : 0 <= hd % 5 /\ hd % 5 < 5 := ⟨Int.emod_nonneg _ (by decide), Int.emod_lt_of_pos _ (by decide)⟩
  have q60 : 0 <= hd / 60 % 4 /\ hd / 60 % 4 < 4 := ⟨Int.emod_nonneg _ (by decide), Int.emod_lt_of_pos _ (by decide)⟩
  have inj : ∀ u v : Int, V.int u = V.int v ↔ u = v := fun u v => ⟨fun z => by injection z, fun z => by rw [z]⟩
  obtain ⟨t, hat1, ht⟩ : ∃ t : Int, atI [V.int 4, .int 12] (if decide (V.int (hd % 5) = V.int 3) = true then 1 else 0) = some (.int t) /\ ((t = 12 /\ hd % 5 = 3) \/ (t = 4 /\ hd % 5 ≠ 3)) := by
    by_cases z : hd % 5 = 3
    · exact ⟨12, by rw [if_pos (decide_eq_true ((inj _ _).mpr z))]; rfl, .inl ⟨rfl, z⟩⟩
    · exact ⟨4, by rw [if_neg (by rw [decide_eq_false (fun y => z ((inj _ _).mp y))]; decide)]; rfl, .inr ⟨rfl, z⟩⟩
  obtain ⟨sI, hat2, hs2, hs5, hs4⟩ : ∃ s : Int, atI [V.int 2, .int (2 + hd / 60 % 4)] (if decide (V.int (hd % 5) = V.int 4) = true then 1 else 0) = some (.int s) /\ 2 <= s /\ s <= 5 /\ (hd % 5 ≠ 4 -> s = 2) := by
    by_cases z : hd % 5 = 4
    · exact ⟨2 + hd / 60 % 4, by rw [if_pos (decide_eq_true ((inj _ _).mpr z))]; rfl, by omega, by omega, fun y => absurd z y⟩
    · exact ⟨2, by rw [if_neg (by rw [decide_eq_false (fun y => z ((inj _ _).mp y))]; decide)]; rfl, by omega, by omega, fun _ => rfl⟩
  have qt : 0 <= hd / 5 % t /\ hd / 5 % t < t := ⟨Int.emod_nonneg _ (by omega), Int.emod_lt_of_pos _ (by omega)⟩
  obtain ⟨k, ek⟩ : ∃ k : Nat, hd % 5 = (k : Int) := ⟨(hd % 5).toNat, by omega⟩
  obtain ⟨m, em⟩ : ∃ m : Nat, 1 + hd / 5 % t = (m : Int) := ⟨(1 + hd / 5 % t).toNat, by omega⟩
  obtain ⟨sd, es⟩ : ∃ k : Nat, sI = (k : Int) := ⟨sI.toNat, by omega⟩
  have hO : MkOk k m sd := ⟨by omega, by omega, fun z => by omega, fun z => by omega, fun z => by omega⟩
  have hk2 : k ≠ 4 -> sd = 2 := fun z => by have := hs4 (by omega); omega
  have hm12 : m <= 12 := by omega
  have hm0 : 0 < m := hO.pos
  have hsd2 : 2 <= sd := by omega
  have hsd5 : sd <= 5 := by omega
  refine ⟨_, rfl, _, _, rfl, rfl, (by show (0 : Int) < 5; decide), ?_⟩
  refine ⟨_, rfl, _, _, rfl, rfl, div64 (by decide) (by decide), (by show 2 <= sizeLine; decide), fun p1 hp1 => ?_⟩
  refine ⟨_, rfl, rfl, .inr ⟨_, rfl, p1, _, _, _, rfl, rfl, SqL.of upd_same, hat1, _, _, rfl, rfl, (by show (0 : Int) < t; omega), _, _, rfl, rfl, ?_⟩⟩
  have s1 := Same.new hp1 (.lst [.int 4, .int 12])
  refine ⟨fun σ H' => σ = [some (.ref a), some (.int hd), some (.int k), some (.int m), some (.int sd), none, none, none, none, none, none] /\ Same H0 H', ?_, ?_⟩
  · refine ⟨_, rfl, _, _, rfl, rfl, div64 (by decide) (by decide), _, _, rfl, rfl, (by show (0 : Int) < 4; decide), _, _, rfl, rfl, (by show 2 <= sizeLine; decide), fun p2 hp2 => ?_⟩
    refine ⟨_, rfl, rfl, .inr ⟨_, rfl, p2, _, _, _, rfl, rfl, SqL.of upd_same, hat2, ?_⟩⟩
    refine ⟨?_, s1.trans (Same.new hp2 (.lst [.int 2, .int (2 + hd / 60 % 4)]))⟩
    show [some (V.ref a), some (.int hd), some (.int (hd % 5)), some (.int (1 + hd / 5 % t)), some (.int sI), none, none, none, none, none, none] = _
    rw [ek, em, es]
  clear hat1 hat2 s1 hp1 ek em es qt ht hs2 hs5 hs4 q5 q60 inj
  rintro σ H1 ⟨rfl, s1⟩
  -- the rows
  refine ⟨_, rfl, _, rfl, _, rfl, _, rfl, _, rfl, a, ns, hd, k, m, sd, rfl, s1.seq hS, hO, hk2, hsd2, hsd5, fun b H2 as rs s2 hb0 hB hRs hrl hrow => ?_⟩
  have s12 := s1.trans s2
  have tb : ∀ {H'}, Same H0 H' -> TbL H' (cls 5) := fun {H'} s => TbS.map hTs (fun _ _ z => s _ _ z) fun _ _ z => s _ _ z
  have hfit0 : ∀ r ∈ rs, Fit (Gnd.make k m sd) r := fun r hr => fit_make hO hk2 (hrow r hr)
  have hok0 := Gnd.make_ok hO
  have he0 : (Gnd.make k m sd).err <= 30 := by rw [Gnd.make_err]; omega
  have gone : ∀ {y : Addr} {H'} {g : Gnd}, GAt cls ks H' y g -> H' y ≠ none := fun {y H' g} h => by
    obtain ⟨C, dx, fs, hi, _⟩ := h.ins
    rw [hi]; simp
  -- the run
  refine ⟨_, rfl, _, rfl, _, rfl, k, m, sd, rfl, hO, tb s12, fun y1 H3 s3 hy1 hA1 => ?_⟩
  refine ⟨_, rfl, _, rfl, y1, b, as, rs, Gnd.make k m sd, rfl, hA1, s3 _ _ hB, hRs.same s3, hrl, hok0, hfit0, he0, fun c t H4 k4 hc0 hA4 hC4 hbl => ?_⟩
  have k04 : Kp [y1] H0 H4 := (Kp.of (s12.trans s3)).trans k4
  have hB4 := k4.lst (s3 _ _ hB)
  have hRs4 := k4.rows (hRs.same s3)
  rw [numsV_eq] at hC4
  have hbl' : (intsOf (vis rs (Gnd.make k m sd) t).2).length <= 40 := by rw [List.length_map]; exact hbl
  have hgo := goes_vis (rs := rs) (g := Gnd.make k m sd) t
  -- the book put again
  refine ⟨_, rfl, _, rfl, _, rfl, k, m, sd, rfl, hO, k04.ts _ hTs, fun y2 H5 s5 hy2 hA2 => ?_⟩
  refine ⟨_, rfl, _, rfl, _, rfl, _, rfl, k, m, sd, rfl, hO, TbS.map (k04.ts _ hTs) (fun _ _ z => s5 _ _ z) (fun _ _ z => s5 _ _ z), fun y3 H6 s6 hy3 hA3 => ?_⟩
  have n12 : y1 ≠ y2 := fun z => gone hA4 (by rw [z]; exact hy2)
  have n13 : y1 ≠ y3 := fun z => gone (hA4.same s5) (by rw [z]; exact hy3)
  have n23 : y2 ≠ y3 := fun z => gone hA2 (by rw [z]; exact hy3)
  have s56 := s5.trans s6
  refine ⟨_, rfl, _, rfl, y2, y3, b, c, as, rs, intsOf (vis rs (Gnd.make k m sd) t).2, Gnd.make k m sd, rfl, n23, ⟨hA2.same s6, s56 _ _ hB4, hRs4.same s56, hrl, s56 _ _ hC4, by omega, hok0, hfit0, he0⟩, hA3, fun g' p H7 k7 hA7 hEn => ?_⟩
  obtain ⟨rfl, rfl⟩ := ends_uniq hEn (.all hgo)
  refine ⟨_, rfl, iteF ?_⟩
  have hA17 := (hA4.same s56).keep k7 (by simp; exact ⟨n12, n13⟩)
  obtain ⟨C, dx, fs, hi, hkd, hno⟩ := hA7.ins
  obtain ⟨C1, dx1, fs1, hi1, hkd1, hno1⟩ := hA17.ins
  refine ⟨_, rfl, y2, C, dx, fs, rfl, hi, hkd, hno _ (by decide +kernel), ⟨_, _, hi⟩, y2, _, rfl, hA7, fun t1 ht1 => ?_⟩
  refine ⟨_, rfl, y1, C1, dx1, fs1, rfl, hi1, hkd1, hno1 _ (by decide +kernel), ⟨_, _, hi1⟩, y1, _, rfl, hA17, fun t2 ht2 => ?_⟩
  obtain ⟨us, vs, e1, e2, e3⟩ := held_pair (K := K) ht1 ht2
  refine ⟨⟨t1, t2, us, vs, rfl, rfl, .inr ⟨e1, e2⟩, e3⟩, ⟨_, rfl, iteF ?_⟩⟩
  refine ⟨_, rfl, y2, C, dx, fs, rfl, hi, hkd, hno _ (by decide +kernel), ⟨_, _, hi⟩, y2, _, rfl, hA7, ?_⟩
  refine ⟨_, rfl, y1, C1, dx1, fs1, rfl, hi1, hkd1, hno1 _ (by decide +kernel), ⟨_, _, hi1⟩, y1, _, rfl, hA17, rfl, _, rfl, ?_⟩
  refine iteND (fun z => absurd rfl z) (fun _ => ?_)
  have k07 : Kp [y1, y2, y3] H0 H7 := (k04.mono (by simp)).trans (((Kp.of s56).trans k7).mono (by simp))
  have hB7 := k7.lst (s56 _ _ hB4)
  have hRs7 := k7.rows (hRs4.same s56)
  have hC7 := k7.lst (s56 _ _ hC4)
  -- the spoiled books
  refine ⟨(3 : Int), rfl, by decide, by decide, ?_⟩
  refine for_range (lo := 0) (n := (3 : Int).toNat) (fun i σ H' => ∃ (v9 v10 : Option V) (S : List Addr), σ = [some (.ref a), some (.int hd), some (.int k), some (.int m), some (.int sd), some (.ref b), some (.ref y1), some (.ref c), some (.ref y2), v9, v10] /\ Kp S H7 H' /\ TbL H' (cls 5) /\ SqL K H' a (ns.map V.int))
    ⟨none, none, [], rfl, Kp.refl, k07.ts _ hTs, k07.seq hS⟩ ?_ ?_
  · rintro i σ H' hi3 ⟨v9, v10, S, rfl, kp, hTb, hSc⟩
    have hi3' : i < 3 := hi3
    refine ⟨_, rfl, _, rfl, _, rfl, _, rfl, _, _, rfl, rfl, a, ns, _, rfl, hSc, (by omega), (by omega), fun z hz => ?_⟩
    refine ⟨c, b, _, _, z, rfl, kp.lst hC7, hbl', kp.lst hB7, (by rw [List.length_map, Paired.length hRs7]; exact hrl), hz, fun r bk' H8 s8 hr0 hR8 hb8 => ?_⟩
    refine ⟨_, rfl, _, rfl, _, rfl, k, m, sd, rfl, hO, TbS.map hTb (fun _ _ z => s8 _ _ z) (fun _ _ z => s8 _ _ z), fun y4 H9 s9 hy4 hA4' => ?_⟩
    refine ⟨_, rfl, _, rfl, _, rfl, k, m, sd, rfl, hO, TbS.map hTb (fun _ _ z => (s8.trans s9) _ _ z) (fun _ _ z => (s8.trans s9) _ _ z), fun y5 H10 s10 hy5 hA5 => ?_⟩
    have n45 : y4 ≠ y5 := fun z => gone hA4' (by rw [z]; exact hy5)
    have s810 := s8.trans (s9.trans s10)
    refine ⟨_, rfl, _, rfl, y4, y5, b, r, as, rs, bk', Gnd.make k m sd, rfl, n45, ⟨hA4'.same s10, s810 _ _ (kp.lst hB7), (kp.rows hRs7).same s810, hrl, (s9.trans s10) _ _ hR8, by omega, hok0, hfit0, he0⟩, hA5, fun g' p H11 k11 hA11 hEn => ?_⟩
    refine ⟨_, rfl, iteF ?_⟩
    have k8 : Kp [y4, y5] H' H11 := (Kp.of s810).trans k11
    exact ⟨_, _, S ++ [y4, y5], rfl, (kp.mono fun x hx => List.mem_append_left _ hx).trans (k8.mono fun x hx => List.mem_append_right _ hx), k8.ts _ hTb, k8.seq hSc⟩
  · rintro σ H' ⟨v9, v10, S, rfl, kp, hTb, hSc⟩
    exact q H'
end
end Mw
namespace Mw
open PySem L2
section
variable {P : Program} {w : World} {K : PySem.W.Frag} {mg : Str -> Option Value} {base : Heap} {f : Addr} {fd : FuncData} {cls : Nat -> Addr} {ks : List Nat} {np ns nf tc hC tm wb : Addr} {C_Hand C_PlainHand C_MarginHand C_HalvingHand C_SidesHand X_MendError X_NoFraction X_NoPoint X_NoSide X_NoRow X_NoTable X_NoText X_NotParted X_OneSide X_TooMany X_WrongBook T_code T_tab : Addr}
theorem sc_WrongBook___init__ : FnScope ["self", "place"] ["self", "place"] (defScope (mem 11 0)) := ⟨rfl, rfl, rfl, by decide +kernel, rfl, by decide +kernel, by decide +kernel⟩
theorem ok_WrongBook___init__ (F : Fun K "__init__" "WrongBook.__init__" (mem 11 0) f fd) (T : Txt BN mg) (WS : ExcS K wb "place") : FnOk P w K mg base (CXE P w) 1 f fd ["self", "place"] (SpX wb "place") := by
  refine F.okX sc_WrongBook___init__ (fun vs H Q E h => ?_) (fun cdv A outer s H vs Q E hr h => ?_)
  · obtain ⟨a, v, rfl, _⟩ := h
    rfl
  obtain ⟨a, v, rfl, hA, q⟩ := h
  refine ⟨_, (pss_one (ps_xset (pv 0) (pv 1) rfl)), ?_⟩
  exact ⟨_, rfl, _, rfl, a, wb, rfl, hA, WS, fun d hd => q d hd⟩
end
end Mw
namespace Mw
open PySem L2
section
variable {P : Program} {w : World} {K : PySem.W.Frag} {mg : Str -> Option Value} {base : Heap} {f : Addr} {fd : FuncData} {cls : Nat -> Addr} {ks : List Nat} {np ns nf tc hC tm wb : Addr} {C_Hand C_PlainHand C_MarginHand C_HalvingHand C_SidesHand X_MendError X_NoFraction X_NoPoint X_NoSide X_NoRow X_NoTable X_NoText X_NotParted X_OneSide X_TooMany X_WrongBook T_code T_tab : Addr}
theorem sc_Hand___init__ : FnScope ["self", "many"] ["self", "many"] (defScope (mem 26 0)) := ⟨rfl, rfl, rfl, by decide +kernel, rfl, by decide +kernel, by decide +kernel⟩
theorem ok_Hand___init__ (F : Fun K "__init__" "Hand.__init__" (mem 26 0) f fd) (T : Txt BN mg) (HT : HTx K cls ks) : FnOk P w K mg base (CXE P w) 1 f fd ["self", "many"] (spBI cls ks) := by
  refine F.okX sc_Hand___init__ (fun vs H Q E h => ?_) (fun cdv A outer s H vs Q E hr h => ?_)
  · obtain ⟨x, C, dx, m, rfl, _⟩ := h
    rfl
  obtain ⟨x, C, dx, m, rfl, hX, ⟨k, hk, rfl⟩, h0, h4, q⟩ := h
  refine ⟨_, (pss_cons (ps_fld (pv 0) (pv 1) rfl)
      (pss_cons (ps_fld (pv 0) (pe_op (op_repTK (K := K) rfl) (pe_tup (pa_cons pe_int pa_nil)) (pe_op op_add (pv 1) pe_int)) rfl)
      (pss_one (ps_fld (pv 0) pe_int rfl)))), ?_⟩
  have cl := HT.cl _ hk
  refine ⟨_, rfl, _, rfl, x, cls k, dx, _, rfl, hX, cl, HT.many _ hk, (by show 0 < 1000; decide), ?_⟩
  have k1 : ∀ fs, OffD x H (upd H x (.ins (cls k) dx fs)) := fun fs b o n h => by rw [upd_ne n]; exact h
  generalize hfs : putF "many" (V.int m) [] = fs1 at *
  have hl1 : fs1.length = 1 := by rw [<- hfs]; rfl
  refine ⟨(by show 1 <= sizeLine; decide), fun p hp => ?_⟩
  have s1 := Same.new hp (.tup [.int 0])
  refine ⟨_, rfl, _, _, rfl, rfl, p, (m : Int) + 1, _, rfl, rfl, SqT.of upd_same, by simp, by omega, by omega, (by show 1 <= 1000; decide), fun z => absurd z (by omega), fun _ t ht => ?_⟩
  have e0 : (List.replicate ((m : Int) + 1).toNat [V.int 0]).flatten = List.replicate (m + 1) (V.int 0) := by
    have : ((m : Int) + 1).toNat = m + 1 := by omega
    rw [this]; simp
  rw [e0]
  have s2 := s1.trans (Same.new ht (.tup (List.replicate (m + 1) (V.int 0))))
  have htx : t ≠ x := fun z => by rw [z, s1 _ _ upd_same] at ht; cases ht
  refine ⟨_, rfl, x, cls k, dx, fs1, rfl, s2 _ _ upd_same, cl, HT.held _ hk, by omega, ?_⟩
  have hl2 := length_putF "held" (V.ref t) fs1
  refine ⟨_, rfl, x, cls k, dx, _, rfl, upd_same, cl, HT.made _ hk, by omega, ?_⟩
  have hl3 := length_putF "made" (V.int 0) (putF "held" (V.ref t) fs1)
  have k3 : OffD x H _ := fun b o n h => s2 _ _ (k1 fs1 b o n h)
  rw [upd_upd]
  refine q _ (putF "made" (.int 0) (putF "held" (.ref t) fs1)) t (fun b o n h => by rw [upd_ne n]; exact k3 b o n h) upd_same ⟨?_, ?_, ?_, by omega, fun f hf => ?_⟩ ?_
  · rw [lookup_putF, if_neg (by decide +kernel), lookup_putF, if_neg (by decide +kernel), <- hfs, lookup_putF, if_pos rfl]
  · rw [lookup_putF, if_neg (by decide +kernel), lookup_putF, if_pos rfl]
  · rw [lookup_putF, if_pos rfl]
  · have g : ∀ y : Str, y ∈ (["many", "held", "made"] : List Str) -> ¬ f = y := fun y hy z => hf (by rw [z]; exact hy)
    rw [lookup_putF, if_neg (g _ (by decide +kernel)), lookup_putF, if_neg (g _ (by decide +kernel)), <- hfs, lookup_putF, if_neg (g _ (by decide +kernel))]
    rfl
  · rw [upd_ne htx, upd_same]
end
end Mw
namespace Mw
open PySem L2
section
variable {P : Program} {w : World} {K : PySem.W.Frag} {mg : Str -> Option Value} {base : Heap} {f : Addr} {fd : FuncData} {cls : Nat -> Addr} {ks : List Nat} {np ns nf tc hC tm wb : Addr} {C_Hand C_PlainHand C_MarginHand C_HalvingHand C_SidesHand X_MendError X_NoFraction X_NoPoint X_NoSide X_NoRow X_NoTable X_NoText X_NotParted X_OneSide X_TooMany X_WrongBook T_code T_tab : Addr}
theorem sc_Hand_put : FnScope ["self", "point", "side"] ["self", "point", "side"] (defScope (mem 26 2)) := ⟨rfl, rfl, rfl, by decide +kernel, rfl, by decide +kernel, by decide +kernel⟩
theorem ok_Hand_put (F : Fun K "put" "Hand.put" (mem 26 2) f fd) (T : Txt BN mg) (HT : HTx K cls ks) (m_would_err : MCal P w K mg base 7 (Kds cls ks) "would_err" ["self", "point", "side"] (spWould K cls ks np ns)) (m_mend : MCal P w K mg base 5 (Kds cls ks) "mend" ["self", "point", "side"] (spMd K cls ks)) : FnOk P w K mg base (CXE P w) 8 f fd ["self", "point", "side"] (spPutG K cls ks np ns) := by
  refine F.okX sc_Hand_put (fun vs H Q E h => ?_) (fun cdv A outer s H vs Q E hr h => ?_)
  · obtain ⟨a, p, g, xs, s0, rfl, _⟩ := h
    rfl
  obtain ⟨a, p, g, xs, s0, rfl, hA, ho, he, hP, hE, hE2, q⟩ := h
  refine ⟨_, (pss_cons (ps_if (pt_not (pt_val (pe_methG (pv 0) m_would_err (hr.mono (by decide)) passG_out (pa_cons (pv 1) (pa_cons (pv 2) pa_nil))))) (pss_one (ps_ret pe_bl)) pss_nil)
      (pss_cons (ps_fld (pv 0) (pe_op op_add (pe_fld (pv 0) rfl) pe_int) rfl)
      (pss_cons (ps_expr (pe_methG (pv 0) m_mend (hr.mono (by decide)) passG_out (pa_cons (pv 1) (pa_cons (pv 2) pa_nil))))
      (pss_one (ps_ret pe_bl))))), ?_⟩
  obtain ⟨dx, fs, t, e, F1, ht⟩ := hA.ex
  have hk : Kds cls ks (cls g.kd) := ⟨_, hA.kin, rfl⟩
  refine ⟨_, rfl, a, _, dx, fs, rfl, e, hk, F1.no _ (by decide +kernel), _, rfl, _, rfl, ⟨_, _, e⟩, a, p, g, xs, s0, rfl, hA, ho, he, hP, hE, hE2, fun y hs => ?_⟩
  obtain ⟨hx, q1⟩ := q y hs
  refine ⟨hx, fun H1 s1 => ?_⟩
  refine ⟨_, rfl, ?_⟩
  rw [Gnd.step_eq] at q1
  cases hb : g.wrong xs s0 with
  | false =>
    refine iteT ?_
    have q2 := q1 H1 (Kp.of s1)
    rw [hb, if_neg (by simp)] at q2
    exact q2 (hA.same s1)
  | true =>
    refine iteF ?_
    refine ⟨_, rfl, a, _, dx, fs, _, rfl, s1 _ _ e, HT.cl _ hA.kin, HT.made _ hA.kin, F1.made, _, _, rfl, rfl, _, rfl, a, _, dx, fs, rfl, s1 _ _ e, HT.cl _ hA.kin, HT.made _ hA.kin, by have := F1.few; omega, ?_⟩
    have hA2 := hA.made_set (s1 _ _ e) F1 (ht.map fun _ _ z => s1 _ _ z) (fun h z => (hA.ts h z).map (fun _ _ y => s1 _ _ y) fun _ _ y => s1 _ _ y)
    have kp2 : Kp [a] H (upd H1 a (.ins (cls g.kd) dx (putF "made" (.int (g.err + 1)) fs))) := (Kp.of s1).upd_ins (s1 _ _ e) (by simp)
    have hm2 : (putF "made" (V.int (g.err + 1)) fs).lookup ("mend" : Str) = none := by
      rw [lookup_putF, if_neg (by decide +kernel)]; exact F1.no _ (by decide +kernel)
    refine ⟨_, rfl, a, _, dx, _, rfl, upd_same, hk, hm2, _, rfl, _, rfl, ⟨_, _, upd_same⟩, a, p, g.tick, xs, s0, rfl, hA2, ho.tick, he.tick, kp2.seqT hP, Gnd.tick_pt hx, by rw [Gnd.tick_has]; exact hs, fun H3 k3 hA3 => ?_⟩
    have q2 := q1 H3 (kp2.trans k3)
    rw [hb, if_pos rfl] at q2
    exact q2 hA3
end
end Mw
namespace Mw
open PySem L2
section
variable {P : Program} {w : World} {K : PySem.W.Frag} {mg : Str -> Option Value} {base : Heap} {f : Addr} {fd : FuncData} {cls : Nat -> Addr} {ks : List Nat} {np ns nf tc hC tm wb : Addr} {C_Hand C_PlainHand C_MarginHand C_HalvingHand C_SidesHand X_MendError X_NoFraction X_NoPoint X_NoSide X_NoRow X_NoTable X_NoText X_NotParted X_OneSide X_TooMany X_WrongBook T_code T_tab : Addr}
theorem sc_Hand_weights : FnScope ["self"] ["self"] (defScope (mem 26 3)) := ⟨rfl, rfl, rfl, by decide +kernel, rfl, by decide +kernel, by decide +kernel⟩
theorem ok_Hand_weights (F : Fun K "weights" "Hand.weights" (mem 26 3) f fd) (T : Txt BN mg) (HT : HTx K cls ks) : FnOk P w K mg base (CXE P w) 1 f fd ["self"] (spWtsG cls ks) := by
  refine F.okX sc_Hand_weights (fun vs H Q E h => ?_) (fun cdv A outer s H vs Q E hr h => ?_)
  · obtain ⟨a, g, rfl, _⟩ := h
    rfl
  obtain ⟨a, g, rfl, hA, q⟩ := h
  refine ⟨_, (pss_one (ps_ret (pe_fld (pv 0) rfl))), ?_⟩
  obtain ⟨dx, fs, t, e, F1, ht⟩ := hA.ex
  exact ⟨_, rfl, a, _, dx, fs, _, rfl, e, HT.cl _ hA.kin, HT.held _ hA.kin, F1.held, q t ht⟩
end
end Mw
namespace Mw
open PySem L2
section
variable {P : Program} {w : World} {K : PySem.W.Frag} {mg : Str -> Option Value} {base : Heap} {f : Addr} {fd : FuncData} {cls : Nat -> Addr} {ks : List Nat} {np ns nf tc hC tm wb : Addr} {C_Hand C_PlainHand C_MarginHand C_HalvingHand C_SidesHand X_MendError X_NoFraction X_NoPoint X_NoSide X_NoRow X_NoTable X_NoText X_NotParted X_OneSide X_TooMany X_WrongBook T_code T_tab : Addr}
theorem sc_Hand_mistakes : FnScope ["self"] ["self"] (defScope (mem 26 4)) := ⟨rfl, rfl, rfl, by decide +kernel, rfl, by decide +kernel, by decide +kernel⟩
theorem ok_Hand_mistakes (F : Fun K "mistakes" "Hand.mistakes" (mem 26 4) f fd) (T : Txt BN mg) (HT : HTx K cls ks) : FnOk P w K mg base (CXE P w) 1 f fd ["self"] (spErrG cls ks) := by
  refine F.okX sc_Hand_mistakes (fun vs H Q E h => ?_) (fun cdv A outer s H vs Q E hr h => ?_)
  · obtain ⟨a, g, rfl, _⟩ := h
    rfl
  obtain ⟨a, g, rfl, hA, q⟩ := h
  refine ⟨_, (pss_one (ps_ret (pe_fld (pv 0) rfl))), ?_⟩
  obtain ⟨dx, fs, t, e, F1, ht⟩ := hA.ex
  exact ⟨_, rfl, a, _, dx, fs, _, rfl, e, HT.cl _ hA.kin, HT.made _ hA.kin, F1.made, q⟩
end
end Mw
namespace Mw
open PySem L2
section
variable {P : Program} {w : World} {K : PySem.W.Frag} {mg : Str -> Option Value} {base : Heap} {f : Addr} {fd : FuncData} {cls : Nat -> Addr} {ks : List Nat} {np ns nf tc hC tm wb : Addr} {C_Hand C_PlainHand C_MarginHand C_HalvingHand C_SidesHand X_MendError X_NoFraction X_NoPoint X_NoSide X_NoRow X_NoTable X_NoText X_NotParted X_OneSide X_TooMany X_WrongBook T_code T_tab : Addr}
theorem sc_Hand_would_err : FnScope ["self", "point", "side"] ["self", "point", "side"] (defScope (mem 26 5)) := ⟨rfl, rfl, rfl, by decide +kernel, rfl, by decide +kernel, by decide +kernel⟩
theorem ok_Hand_would_err (F : Fun K "would_err" "Hand.would_err" (mem 26 5) f fd) (T : Txt BN mg) (X_NoSide : ExR K mg "NoSide" ns) (m_look_at : MCal P w K mg base 2 (Kds cls ks) "look_at" ["self", "point"] (spLook K cls ks np)) (m_has_side : MCal P w K mg base 2 (Kds cls ks) "has_side" ["self", "side"] (spHas cls ks)) (m_is_mistake : MCal P w K mg base 6 (Kds cls ks) "is_mistake" ["self", "point", "side"] (spIM K cls ks)) : FnOk P w K mg base (CXE P w) 7 f fd ["self", "point", "side"] (spWould K cls ks np ns) := by
  refine F.okX sc_Hand_would_err (fun vs H Q E h => ?_) (fun cdv A outer s H vs Q E hr h => ?_)
  · obtain ⟨a, p, g, xs, s0, rfl, _⟩ := h
    rfl
  obtain ⟨a, p, g, xs, s0, rfl, hA, ho, he, hP, hE, hE2, q⟩ := h
  refine ⟨_, (pss_cons (ps_expr (pe_methG (pv 0) m_look_at (hr.mono (by decide)) passG_out (pa_cons (pv 1) pa_nil)))
      (pss_cons (ps_if (pt_not (pt_val (pe_methG (pv 0) m_has_side (hr.mono (by decide)) passG_out (pa_cons (pv 2) pa_nil)))) (pss_one (ps_raise rfl X_NoSide.c rfl X_NoSide.g raiseG_out (pa_cons (pe_fstr (pv 2) (by decide)) pa_nil))) pss_nil)
      (pss_one (ps_ret (pe_methG (pv 0) m_is_mistake (hr.mono (by decide)) passG_out (pa_cons (pv 1) (pa_cons (pv 2) pa_nil))))))), ?_⟩
  obtain ⟨dx, fs, t, e, F1, ht⟩ := hA.ex
  have hk : Kds cls ks (cls g.kd) := ⟨_, hA.kin, rfl⟩
  refine ⟨_, rfl, a, _, dx, fs, rfl, e, hk, F1.no _ (by decide +kernel), _, rfl, ⟨_, _, e⟩, a, p, g, xs, rfl, hA, hP, fun n => hE n H (Same.refl _), fun y => ?_⟩
  refine ⟨_, rfl, a, _, dx, fs, rfl, e, hk, F1.no _ (by decide +kernel), _, rfl, ⟨_, _, e⟩, a, g, s0, rfl, hA, fun H1 s1 => ?_⟩
  refine ⟨_, rfl, ?_⟩
  cases hb : g.has s0 with
  | false =>
    obtain ⟨b1, b2⟩ := hE2 y hb
    refine iteT ?_
    exact ⟨_, rfl, _, rfl, b1, fun z => ⟨(by show 1 <= sizeLine; decide), b2 H1 s1⟩⟩
  | true =>
    obtain ⟨hx, q1⟩ := q y hb
    refine iteF ?_
    exact ⟨_, rfl, a, _, dx, fs, rfl, s1 _ _ e, hk, F1.no _ (by decide +kernel), _, rfl, _, rfl, ⟨_, _, s1 _ _ e⟩, a, p, g, xs, s0, rfl, hA.same s1, ho, he, s1.seqT hP, hx, hb, fun H2 s2 => q1 H2 (s1.trans s2)⟩
end
end Mw
namespace Mw
open PySem L2
section
variable {P : Program} {w : World} {K : PySem.W.Frag} {mg : Str -> Option Value} {base : Heap} {f : Addr} {fd : FuncData} {cls : Nat -> Addr} {ks : List Nat} {np ns nf tc hC tm wb : Addr} {C_Hand C_PlainHand C_MarginHand C_HalvingHand C_SidesHand X_MendError X_NoFraction X_NoPoint X_NoSide X_NoRow X_NoTable X_NoText X_NotParted X_OneSide X_TooMany X_WrongBook T_code T_tab : Addr}
theorem sc_Hand_look_at : FnScope ["self", "point"] ["self", "point"] (defScope (mem 26 6)) := ⟨rfl, rfl, rfl, by decide +kernel, rfl, by decide +kernel, by decide +kernel⟩
theorem ok_Hand_look_at (F : Fun K "look_at" "Hand.look_at" (mem 26 6) f fd) (T : Txt BN mg) (HT : HTx K cls ks) (X_NoPoint : ExR K mg "NoPoint" np) : FnOk P w K mg base (CXE P w) 1 f fd ["self", "point"] (spLook K cls ks np) := by
  refine F.okX sc_Hand_look_at (fun vs H Q E h => ?_) (fun cdv A outer s H vs Q E hr h => ?_)
  · obtain ⟨a, p, g, xs, rfl, _⟩ := h
    rfl
  obtain ⟨a, p, g, xs, rfl, hA, hP, hE, q⟩ := h
  refine ⟨_, (pss_one (ps_if (pt_cmpR op_ne (pe_callB (call_lenK (K := K) rfl) rfl (T.nb "len" (by decide)) (by decide +kernel) (pa_cons (pv 1) pa_nil)) (pe_fld (pv 0) rfl) (nomark _)) (pss_one (ps_raise rfl X_NoPoint.c rfl X_NoPoint.g raiseG_out (pa_cons pe_str pa_nil))) pss_nil)), ?_⟩
  obtain ⟨dx, fs, t, e, F1, ht⟩ := hA.ex
  refine ⟨_, rfl, p, _, rfl, .inr hP, _, rfl, a, _, dx, fs, _, rfl, e, HT.cl _ hA.kin, HT.many _ hA.kin, F1.many, rfl, _, rfl, ?_⟩
  refine iteND (fun n => ?_) (fun y => ?_)
  · exact ⟨(by show 1 <= sizeLine; decide), hE (fun z => n (by rw [List.length_map, z]))⟩
  · rw [List.length_map] at y
    have y2 : (xs.length : Int) = g.many := by simpa using y
    exact q (by omega)
end
end Mw
namespace Mw
open PySem L2
section
variable {P : Program} {w : World} {K : PySem.W.Frag} {mg : Str -> Option Value} {base : Heap} {f : Addr} {fd : FuncData} {cls : Nat -> Addr} {ks : List Nat} {np ns nf tc hC tm wb : Addr} {C_Hand C_PlainHand C_MarginHand C_HalvingHand C_SidesHand X_MendError X_NoFraction X_NoPoint X_NoSide X_NoRow X_NoTable X_NoText X_NotParted X_OneSide X_TooMany X_WrongBook T_code T_tab : Addr}
theorem sc_Hand_has_side : FnScope ["self", "side"] ["self", "side"] (defScope (mem 26 7)) := ⟨rfl, rfl, rfl, by decide +kernel, rfl, by decide +kernel, by decide +kernel⟩
theorem ok_Hand_has_side (F : Fun K "has_side" "Hand.has_side" (mem 26 7) f fd) (T : Txt BN mg) : FnOk P w K mg base (CXE P w) 1 f fd ["self", "side"] (fun vs H Q E => spHas cls ks vs H Q E /\ ∀ a g us, vs = .ref a :: us -> GAt cls ks H a g -> g.kd ≠ 4) := by
  refine F.okX sc_Hand_has_side (fun vs H Q E h => ?_) (fun cdv A outer s H vs Q E hr h => ?_)
  · obtain ⟨⟨a, g, s0, rfl, _⟩, _⟩ := h
    rfl
  obtain ⟨⟨a, g, s0, rfl, hA, q⟩, hn⟩ := h
  refine ⟨_, (pss_one (ps_ret (pe_cmpR (op_inK (K := K) rfl) (pv 1) (pe_tup (pa_cons pe_int (pa_cons pe_int pa_nil))) (by with_unfolding_all rfl)))), ?_⟩
  have h4 := hn a g _ rfl hA
  refine ⟨_, rfl, (by show 2 <= sizeLine; decide), fun p hp => ⟨p, _, rfl, .inr (SqT.of upd_same), rfl, rfl, ?_⟩⟩
  have q1 := q _ (Same.new hp (.tup [.int 0, .int 1]))
  have e1 : g.has s0 = decide (s0 = 0 \/ s0 = 1) := by
    cases g with
    | p h => rfl
    | v h => rfl
    | s h => exact absurd rfl h4
  have e2 : inV (.int s0) [.int 0, .int 1] = decide (s0 = 0 \/ s0 = 1) := by
    by_cases h0 : s0 = 0
    · subst h0; rfl
    · by_cases h1 : s0 = 1
      · subst h1; rfl
      · rw [decide_eq_false (by omega)]
        simp [inV, eqV]
        omega
  rw [e1, <- e2] at q1
  exact q1
end
end Mw
namespace Mw
open PySem L2
section
variable {P : Program} {w : World} {K : PySem.W.Frag} {mg : Str -> Option Value} {base : Heap} {f : Addr} {fd : FuncData} {cls : Nat -> Addr} {ks : List Nat} {np ns nf tc hC tm wb : Addr} {C_Hand C_PlainHand C_MarginHand C_HalvingHand C_SidesHand X_MendError X_NoFraction X_NoPoint X_NoSide X_NoRow X_NoTable X_NoText X_NotParted X_OneSide X_TooMany X_WrongBook T_code T_tab : Addr}
theorem sc_Hand_side_of : FnScope ["self", "point", "told"] ["self", "point"] (defScope (mem 26 8)) := ⟨rfl, rfl, rfl, by decide +kernel, rfl, by decide +kernel, by decide +kernel⟩
theorem ok_Hand_side_of (F : Fun K "side_of" "Hand.side_of" (mem 26 8) f fd) (T : Txt BN mg) (HT : HTx K cls ks) (c_told_by : Cal P w K mg base 2 "told_by" ["weights", "point"] (spTold K)) : FnOk P w K mg base (CXE P w) 3 f fd ["self", "point"] (fun vs H Q E => spSide K cls ks vs H Q E /\ ∀ a g us, vs = .ref a :: us -> GAt cls ks H a g -> g.kd < 3) := by
  refine F.okX sc_Hand_side_of (fun vs H Q E h => ?_) (fun cdv A outer s H vs Q E hr h => ?_)
  · obtain ⟨⟨a, p, g, xs, rfl, _⟩, _⟩ := h
    rfl
  obtain ⟨⟨a, p, g, xs, rfl, hA, ho, he, hP, hx, q⟩, hn⟩ := h
  refine ⟨_, (pss_cons (ps_set (i := 2) sc_Hand_side_of.nd rfl (Or.inl rfl) (pe_cal c_told_by (hr.mono (by decide)) rfl (pa_cons (pe_fld (pv 0) rfl) (pa_cons (pv 1) pa_nil))))
      (pss_cons (ps_if (pt_cmpR op_eq (pv 2) pe_int (nomark _)) (pss_one (ps_ret pe_non)) pss_nil)
      (pss_one (ps_ret (pe_ifExp (pt_cmpR op_gt (pv 2) pe_int (nomark _)) pe_int pe_int))))), ?_⟩
  have hk3 := hn a g _ rfl hA
  obtain ⟨dx, fs, t, e, F1, ht⟩ := hA.ex
  cases g with
  | v h => exact absurd (show 3 < 3 from hk3) (by decide)
  | s h => exact absurd (show 4 < 3 from hk3) (by decide)
  | p h =>
  have hx : h.PtOk xs := hx
  have ho : h.Ok := ho
  have he : h.err <= errTop := he
  have hl := hx.len
  have hp := ho.pos
  have hf := ho.few
  have hw := ho.len
  refine ⟨_, rfl, a, _, dx, fs, _, rfl, e, HT.cl _ hA.kin, HT.held _ hA.kin, F1.held, _, rfl, t, p, true, h.ws, xs, rfl, SqT.of ht, hP, (fun z => by rw [z] at hl; simp at hl; omega), by omega, by omega, Hnd.bits ho he, Hnd.ptbits hx, fun H1 s1 => ?_⟩
  have q1 : Q (guessV (h.prod xs)) H1 := q H1 s1
  have ez : dot h.ws (xs ++ [1]) = h.prod xs := rfl
  rw [ez]
  generalize h.prod xs = z at *
  refine ⟨_, rfl, rfl, _, rfl, ?_⟩
  refine iteD (fun n => ?_) (fun n => ?_)
  · have : z = 0 := by simpa using n
    subst this
    exact q1
  · have n0 : ¬ z = 0 := by simpa using n
    unfold guessV at q1
    rw [if_neg n0] at q1
    refine ⟨_, rfl, _, _, rfl, rfl, _, rfl, ?_⟩
    refine iteD (fun n => ?_) (fun n => ?_)
    · rw [if_pos n] at q1; exact q1
    · rw [if_neg n] at q1; exact q1
end
end Mw
namespace Mw
open PySem L2
section
variable {P : Program} {w : World} {K : PySem.W.Frag} {mg : Str -> Option Value} {base : Heap} {f : Addr} {fd : FuncData} {cls : Nat -> Addr} {ks : List Nat} {np ns nf tc hC tm wb : Addr} {C_Hand C_PlainHand C_MarginHand C_HalvingHand C_SidesHand X_MendError X_NoFraction X_NoPoint X_NoSide X_NoRow X_NoTable X_NoText X_NotParted X_OneSide X_TooMany X_WrongBook T_code T_tab : Addr}
theorem sc_Hand_is_mistake : FnScope ["self", "point", "side"] ["self", "point", "side"] (defScope (mem 26 9)) := ⟨rfl, rfl, rfl, by decide +kernel, rfl, by decide +kernel, by decide +kernel⟩
theorem ok_Hand_is_mistake (F : Fun K "is_mistake" "Hand.is_mistake" (mem 26 9) f fd) (T : Txt BN mg) (m_side_of : MCal P w K mg base 5 (Kds cls ks) "side_of" ["self", "point"] (spSide K cls ks)) : FnOk P w K mg base (CXE P w) 6 f fd ["self", "point", "side"] (fun vs H Q E => spIM K cls ks vs H Q E /\ ∀ a g us, vs = .ref a :: us -> GAt cls ks H a g -> g.kd ≠ 2) := by
  refine F.okX sc_Hand_is_mistake (fun vs H Q E h => ?_) (fun cdv A outer s H vs Q E hr h => ?_)
  · obtain ⟨⟨a, p, g, xs, s0, rfl, _⟩, _⟩ := h
    rfl
  obtain ⟨⟨a, p, g, xs, s0, rfl, hA, ho, he, hP, hx, hs, q⟩, hn⟩ := h
  refine ⟨_, (pss_one (ps_ret (pe_cmpR op_ne (pe_methG (pv 0) m_side_of (hr.mono (by decide)) passG_out (pa_cons (pv 1) pa_nil)) (pv 2) (nomark _)))), ?_⟩
  obtain ⟨dx, fs, t, e, F1, ht⟩ := hA.ex
  have h2 := hn a g _ rfl hA
  refine ⟨_, rfl, a, _, dx, fs, rfl, e, ⟨_, hA.kin, rfl⟩, F1.no _ (by decide +kernel), _, rfl, ⟨_, _, e⟩, a, p, g, xs, rfl, hA, ho, he, hP, hx, fun H' s' => ?_⟩
  refine ⟨_, rfl, g.guess_scal xs s0, ?_⟩
  have q1 := q H' s'
  rw [Gnd.wrong_eq h2 hs, decide_not] at q1
  exact q1
end
end Mw
namespace Mw
open PySem L2
section
variable {P : Program} {w : World} {K : PySem.W.Frag} {mg : Str -> Option Value} {base : Heap} {f : Addr} {fd : FuncData} {cls : Nat -> Addr} {ks : List Nat} {np ns nf tc hC tm wb : Addr} {C_Hand C_PlainHand C_MarginHand C_HalvingHand C_SidesHand X_MendError X_NoFraction X_NoPoint X_NoSide X_NoRow X_NoTable X_NoText X_NotParted X_OneSide X_TooMany X_WrongBook T_code T_tab : Addr}
theorem sc_Hand_mend : FnScope ["self", "point", "side"] ["self", "point", "side"] (defScope (mem 26 10)) := ⟨rfl, rfl, rfl, by decide +kernel, rfl, by decide +kernel, by decide +kernel⟩
theorem ok_Hand_mend (F : Fun K "mend" "Hand.mend" (mem 26 10) f fd) (T : Txt BN mg) : FnOk P w K mg base (CXE P w) 1 f fd ["self", "point", "side"] (fun vs H Q E => spMd K cls ks vs H Q E /\ ∀ a g us, vs = .ref a :: us -> GAt cls ks H a g -> g.kd = 0) := by
  refine F.okX sc_Hand_mend (fun vs H Q E h => ?_) (fun cdv A outer s H vs Q E hr h => ?_)
  · obtain ⟨⟨a, p, g, xs, s0, rfl, _⟩, _⟩ := h
    rfl
  obtain ⟨⟨a, p, g, xs, s0, rfl, hA, ho, he, hP, hx, hs, q⟩, hn⟩ := h
  refine ⟨_, (pss_one ps_pass), ?_⟩
  have h0 := hn a g _ rfl hA
  have e : g.mended xs s0 = g := by
    cases g with
    | p h => show Gnd.p { h with ws := if h.kd = 0 then h.ws else _ } = _
             rw [if_pos (show h.kd = 0 from h0)]
    | v h => cases h0
    | s h => cases h0
  rw [e] at q
  exact q H Kp.refl hA
end
end Mw
namespace Mw
open PySem L2
section
variable {P : Program} {w : World} {K : PySem.W.Frag} {mg : Str -> Option Value} {base : Heap} {f : Addr} {fd : FuncData} {cls : Nat -> Addr} {ks : List Nat} {np ns nf tc hC tm wb : Addr} {C_Hand C_PlainHand C_MarginHand C_HalvingHand C_SidesHand X_MendError X_NoFraction X_NoPoint X_NoSide X_NoRow X_NoTable X_NoText X_NotParted X_OneSide X_TooMany X_WrongBook T_code T_tab : Addr}
theorem sc_PlainHand_mend : FnScope ["self", "point", "side"] ["self", "point", "side"] (defScope (mem 27 0)) := ⟨rfl, rfl, rfl, by decide +kernel, rfl, by decide +kernel, by decide +kernel⟩
theorem ok_PlainHand_mend (F : Fun K "mend" "PlainHand.mend" (mem 27 0) f fd) (T : Txt BN mg) (HT : HTx K cls ks) (c_moved : Cal P w K mg base 2 "moved" ["weights", "point", "times"] (spMv K)) (c_turned : Cal P w K mg base 1 "turned" ["number", "side"] spTurned) : FnOk P w K mg base (CXE P w) 3 f fd ["self", "point", "side"] (fun vs H Q E => spMd K cls ks vs H Q E /\ ∀ a g us, vs = .ref a :: us -> GAt cls ks H a g -> g.kd = 1 \/ g.kd = 2) := by
  refine F.okX sc_PlainHand_mend (fun vs H Q E h => ?_) (fun cdv A outer s H vs Q E hr h => ?_)
  · obtain ⟨⟨a, p, g, xs, s0, rfl, _⟩, _⟩ := h
    rfl
  obtain ⟨⟨a, p, g, xs, s0, rfl, hA, ho, he, hP, hx, hs, q⟩, hn⟩ := h
  refine ⟨_, (pss_one (ps_fld (pv 0) (pe_cal c_moved (hr.mono (by decide)) rfl (pa_cons (pe_fld (pv 0) rfl) (pa_cons (pv 1) (pa_cons (pe_cal c_turned (hr.mono (by decide)) rfl (pa_cons pe_int (pa_cons (pv 2) pa_nil))) pa_nil)))) rfl)), ?_⟩
  have hk := hn a g _ rfl hA
  obtain ⟨dx, fs, t, e, F1, ht⟩ := hA.ex
  cases g with
  | v h => exact absurd (show 3 = 1 \/ 3 = 2 from hk) (by decide)
  | s h => exact absurd (show 4 = 1 \/ 4 = 2 from hk) (by decide)
  | p h =>
  have hk : h.kd = 1 \/ h.kd = 2 := hk
  have hx : h.PtOk xs := hx
  have ho : h.Ok := ho
  have hs : s0 = 0 \/ s0 = 1 := of_decide_eq_true hs
  have hl := hx.len
  have hp := ho.pos
  have hf := ho.few
  have hw := ho.len
  have ht : H t = some (.tup (h.ws.map V.int)) := ht
  refine ⟨_, rfl, a, _, dx, fs, _, rfl, e, HT.cl _ hA.kin, HT.held _ hA.kin, F1.held, _, rfl, _, rfl, 1, s0, rfl, t, p, h.ws, xs, turnF 1 s0, rfl, SqT.of ht, hP, (fun z => by rw [z] at hl; simp at hl; omega), by omega, by omega, ?_, hx.low, fun r H' s' hr0 hR => ?_⟩
  · rcases hs with rfl | rfl
    · exact .inr rfl
    · exact .inl rfl
  have em : mv (turnF 1 s0) h.ws (xs ++ [1]) = Hnd.mend h.ws xs s0 := by
    have e1 : turnF 1 s0 = 2 * s0 - 1 := by rcases hs with rfl | rfl <;> rfl
    rw [e1]; rfl
  refine ⟨_, rfl, a, _, dx, fs, rfl, s' _ _ e, HT.cl _ hA.kin, HT.held _ hA.kin, by have := F1.few; omega, ?_⟩
  refine q _ ((Kp.of s').upd_ins (s' _ _ e) (by simp)) (hA.held_set (s' _ _ e) F1 xs s0 ?_ (fun h z => (hA.ts h z).map (fun _ _ y => s' _ _ y) fun _ _ y => s' _ _ y))
  show H' r = some (.tup ((if h.kd = 0 then h.ws else Hnd.mend h.ws xs s0).map V.int))
  rw [if_neg (by omega), hR, em]
end
end Mw
namespace Mw
open PySem L2
section
variable {P : Program} {w : World} {K : PySem.W.Frag} {mg : Str -> Option Value} {base : Heap} {f : Addr} {fd : FuncData} {cls : Nat -> Addr} {ks : List Nat} {np ns nf tc hC tm wb : Addr} {C_Hand C_PlainHand C_MarginHand C_HalvingHand C_SidesHand X_MendError X_NoFraction X_NoPoint X_NoSide X_NoRow X_NoTable X_NoText X_NotParted X_OneSide X_TooMany X_WrongBook T_code T_tab : Addr}
theorem sc_MarginHand___init__ : FnScope ["self", "many", "margin"] ["self", "many", "margin"] (defScope (mem 28 0)) := ⟨rfl, rfl, rfl, by decide +kernel, rfl, by decide +kernel, by decide +kernel⟩
theorem ok_MarginHand___init__ (F : Fun K "__init__" "MarginHand.__init__" (mem 28 0) f fd) (T : Txt BN mg) (HT : HTx K cls ks) (b_PlainHand___init__ : BCal P w K mg base 2 "PlainHand" "__init__" ["self", "many"] (spBI cls ks)) : FnOk P w K mg base (CXE P w) 3 f fd ["self", "many", "margin"] (fun vs H Q E => 2 ∈ ks /\ SpInit (cls 2) (spNew (hI cls ks) 2) vs H Q E) := by
  refine F.okX sc_MarginHand___init__ (fun vs H Q E h => ?_) (fun cdv A outer s H vs Q E hr h => ?_)
  · obtain ⟨_, x, dx, us, H1, rfl, _, _, _, _, m, g, rfl, _⟩ := h
    rfl
  obtain ⟨hk2, x, dx, us, H1, rfl, hx, hd, hn, rfl, m, g, rfl, h0, h4, q⟩ := h
  refine ⟨_, (pss_cons (ps_expr (pe_baseG b_PlainHand___init__ (hr.mono (by decide)) rfl passG_out (pa_cons (pv 0) (pa_cons (pv 1) pa_nil))))
      (pss_one (ps_fld (pv 0) (pv 2) rfl))), ?_⟩
  refine ⟨_, rfl, _, rfl, x, cls 2, dx, m, rfl, upd_same, ⟨2, hk2, rfl⟩, h0, by omega, fun H2 fs t kp hX2 F1 ht => ?_⟩
  have hf := F1.few
  refine ⟨_, rfl, _, rfl, x, cls 2, dx, fs, rfl, hX2, HT.cl _ hk2, HT.margin hk2, by omega, ?_⟩
  have htx : t ≠ x := fun z => by rw [z, hX2] at ht; cases ht
  have sm : Same H1 (upd H2 x (.ins (cls 2) dx (putF "margin" (.int g) fs))) := fun b o hb => by
    have bx : b ≠ x := ne_of_none hb hx
    have bd : b ≠ dx := ne_of_none hb hd
    rw [upd_ne bx]
    exact kp b o bx (by rw [upd_ne bx, upd_ne bd]; exact hb)
  refine q x _ sm hx ⟨⟨dx, putF "margin" (.int g) fs, t, upd_same, ⟨?_, ?_, ?_, ?_, ?_, ?_, ?_⟩, ?_⟩, hk2, fun h e => by cases e; show 2 < 3; decide, fun h e => by cases e⟩ rfl
  · rw [lookup_putF, if_neg (by decide +kernel)]; exact F1.many
  · rw [lookup_putF, if_neg (by decide +kernel)]; exact F1.held
  · rw [lookup_putF, if_neg (by decide +kernel)]; exact F1.made
  · intro h e z; cases e; rw [lookup_putF, if_pos rfl]; rfl
  · intro h e; cases e
  · have := length_putF "margin" (V.int g) fs; omega
  · intro f hf2
    have g1 : ∀ y : Str, y ∈ fldNames -> ¬ f = y := fun y hy z => hf2 (by rw [z]; exact hy)
    rw [lookup_putF, if_neg (g1 _ (by decide +kernel))]
    refine F1.no f fun z => hf2 ?_
    simp only [List.mem_cons, List.not_mem_nil, or_false] at z ⊢
    rcases z with z | z | z <;> simp [z]
  · show upd H2 x _ t = some (.tup ((Hnd.new 2 g m).ws.map V.int))
    rw [upd_ne htx, ht]; unfold Hnd.new; simp
end
end Mw
namespace Mw
open PySem L2
section
variable {P : Program} {w : World} {K : PySem.W.Frag} {mg : Str -> Option Value} {base : Heap} {f : Addr} {fd : FuncData} {cls : Nat -> Addr} {ks : List Nat} {np ns nf tc hC tm wb : Addr} {C_Hand C_PlainHand C_MarginHand C_HalvingHand C_SidesHand X_MendError X_NoFraction X_NoPoint X_NoSide X_NoRow X_NoTable X_NoText X_NotParted X_OneSide X_TooMany X_WrongBook T_code T_tab : Addr}
theorem sc_MarginHand_is_mistake : FnScope ["self", "point", "side"] ["self", "point", "side"] (defScope (mem 28 1)) := ⟨rfl, rfl, rfl, by decide +kernel, rfl, by decide +kernel, by decide +kernel⟩
theorem ok_MarginHand_is_mistake (F : Fun K "is_mistake" "MarginHand.is_mistake" (mem 28 1) f fd) (T : Txt BN mg) (HT : HTx K cls ks) (c_told_by : Cal P w K mg base 2 "told_by" ["weights", "point"] (spTold K)) (c_turned : Cal P w K mg base 1 "turned" ["number", "side"] spTurned) : FnOk P w K mg base (CXE P w) 4 f fd ["self", "point", "side"] (fun vs H Q E => spIM K cls ks vs H Q E /\ ∀ a g us, vs = .ref a :: us -> GAt cls ks H a g -> g.kd = 2) := by
  refine F.okX sc_MarginHand_is_mistake (fun vs H Q E h => ?_) (fun cdv A outer s H vs Q E hr h => ?_)
  · obtain ⟨⟨a, p, g, xs, s0, rfl, _⟩, _⟩ := h
    rfl
  obtain ⟨⟨a, p, g, xs, s0, rfl, hA, ho, he, hP, hx, hs, q⟩, hn⟩ := h
  refine ⟨_, (pss_one (ps_ret (pe_cmpR op_le (pe_cal c_turned (hr.mono (by decide)) rfl (pa_cons (pe_cal c_told_by (hr.mono (by decide)) rfl (pa_cons (pe_fld (pv 0) rfl) (pa_cons (pv 1) pa_nil))) (pa_cons (pv 2) pa_nil))) (pe_fld (pv 0) rfl) (nomark _)))), ?_⟩
  have h2 := hn a g _ rfl hA
  have hk2 : (2 : Nat) ∈ ks := by have := hA.kin; rw [h2] at this; exact this
  obtain ⟨dx, fs, t, e, F1, ht⟩ := hA.ex
  cases g with
  | v h => exact absurd (show 3 = 2 from h2) (by decide)
  | s h => exact absurd (show 4 = 2 from h2) (by decide)
  | p h =>
  have h2 : h.kd = 2 := h2
  have hx : h.PtOk xs := hx
  have ho : h.Ok := ho
  have he : h.err <= errTop := he
  have hs : s0 = 0 \/ s0 = 1 := of_decide_eq_true hs
  have hl := hx.len
  have hp := ho.pos
  have hf := ho.few
  have hw := ho.len
  have ht : H t = some (.tup (h.ws.map V.int)) := ht
  have ek : cls (Gnd.kd (.p h)) = cls 2 := by show cls h.kd = _; rw [h2]
  refine ⟨_, rfl, a, _, dx, fs, _, rfl, e, HT.cl _ hA.kin, HT.held _ hA.kin, F1.held, _, rfl, t, p, true, h.ws, xs, rfl, SqT.of ht, hP, (fun z => by rw [z] at hl; simp at hl; omega), by omega, by omega, Hnd.bits ho he, Hnd.ptbits hx, fun H1 s1 => ?_⟩
  have q1 : Q (.bl (h.wrong xs s0)) H1 := q H1 s1
  have ez : dot h.ws (xs ++ [1]) = h.prod xs := rfl
  rw [ez]
  unfold Hnd.wrong at q1
  rw [if_pos h2] at q1
  generalize h.prod xs = z at *
  refine ⟨_, rfl, z, s0, rfl, _, rfl, a, _, dx, fs, _, rfl, s1 _ _ e, HT.cl _ hA.kin, by rw [ek]; exact HT.margin hk2, F1.margin h rfl h2, _, _, rfl, rfl, ?_⟩
  have e1 : turnF z s0 = (2 * s0 - 1) * z := by
    rcases hs with rfl | rfl
    · show -z = _; omega
    · show z = _; omega
  rw [e1]
  exact q1
end
end Mw
namespace Mw
open PySem L2
section
variable {P : Program} {w : World} {K : PySem.W.Frag} {mg : Str -> Option Value} {base : Heap} {f : Addr} {fd : FuncData} {cls : Nat -> Addr} {ks : List Nat} {np ns nf tc hC tm wb : Addr} {C_Hand C_PlainHand C_MarginHand C_HalvingHand C_SidesHand X_MendError X_NoFraction X_NoPoint X_NoSide X_NoRow X_NoTable X_NoText X_NotParted X_OneSide X_TooMany X_WrongBook T_code T_tab : Addr}
theorem sc_HalvingHand___init__ : FnScope ["self", "many"] ["self", "many"] (defScope (mem 29 0)) := ⟨rfl, rfl, rfl, by decide +kernel, rfl, by decide +kernel, by decide +kernel⟩
theorem ok_HalvingHand___init__ (F : Fun K "__init__" "HalvingHand.__init__" (mem 29 0) f fd) (T : Txt BN mg) (HT : HTx K cls ks) (b_Hand___init__ : BCal P w K mg base 2 "Hand" "__init__" ["self", "many"] (spBI cls ks)) : FnOk P w K mg base (CXE P w) 3 f fd ["self", "many"] (fun vs H Q E => 3 ∈ ks /\ SpInit (cls 3) (spNewV (gI Gnd.v cls ks)) vs H Q E) := by
  refine F.okX sc_HalvingHand___init__ (fun vs H Q E h => ?_) (fun cdv A outer s H vs Q E hr h => ?_)
  · obtain ⟨_, x, dx, us, H1, rfl, _, _, _, _, m, rfl, _⟩ := h
    rfl
  obtain ⟨hk3, x, dx, us, H1, rfl, hx, hd, hn, rfl, m, rfl, h0, h4, q⟩ := h
  refine ⟨_, (pss_cons (ps_expr (pe_baseG b_Hand___init__ (hr.mono (by decide)) rfl passG_out (pa_cons (pv 0) (pa_cons (pv 1) pa_nil))))
      (pss_one (ps_fld (pv 0) (pe_op (op_repTK (K := K) rfl) (pe_tup (pa_cons (pe_tup (pa_cons pe_int (pa_cons pe_int pa_nil))) pa_nil)) (pv 1)) rfl))), ?_⟩
  refine ⟨_, rfl, _, rfl, x, cls 3, dx, m, rfl, upd_same, ⟨3, hk3, rfl⟩, h0, h4, fun H2 fs t kp hX2 F1 ht => ?_⟩
  have hf := F1.few
  refine ⟨(by show 2 <= sizeLine; decide), fun p1 hp1 => ⟨(by show 1 <= sizeLine; decide), fun p2 hp2 => ?_⟩⟩
  have s1 := Same.new hp1 (.tup [.int 1, .int 1])
  have s2 := s1.trans (Same.new hp2 (.tup [.ref p1]))
  have e2 : upd (upd H2 p1 (.tup [.int 1, .int 1])) p2 (.tup [.ref p1]) p1 = some (.tup [.int 1, .int 1]) := (Same.new hp2 (.tup [.ref p1])) _ _ upd_same
  have fin : ∀ r H3, Same (upd (upd H2 p1 (.tup [.int 1, .int 1])) p2 (.tup [.ref p1])) H3 -> H3 r = some (.tup ((List.replicate m p1).map V.ref)) -> Q .non (upd H3 x (.ins (cls 3) dx (putF "held" (.ref r) fs))) := by
    intro r H3 s3 hR
    have s23 := s2.trans s3
    have hX3 := s23 _ _ hX2
    have sm : Same H1 (upd H3 x (.ins (cls 3) dx (putF "held" (.ref r) fs))) := fun b o hb => by
      have bx : b ≠ x := ne_of_none hb hx
      have bd : b ≠ dx := ne_of_none hb hd
      rw [upd_ne bx]
      exact s23 _ _ (kp b o bx (by rw [upd_ne bx, upd_ne bd]; exact hb))
    refine q x _ sm hx ⟨⟨dx, _, r, upd_same, ⟨?_, ?_, ?_, ?_, ?_, ?_, ?_⟩, HeldAt.upd_ins (H := H3) (g := .v (Vnd.new m)) ⟨List.replicate m p1, hR, ?_⟩ hX3⟩, hk3, (fun h e => by cases e), fun h e => by cases e⟩ rfl
    · rw [lookup_putF, if_neg (by decide +kernel)]; exact F1.many
    · rw [lookup_putF, if_pos rfl]
    · rw [lookup_putF, if_neg (by decide +kernel)]; exact F1.made
    · intro h e; cases e
    · intro h e; cases e
    · have := length_putF "held" (V.ref r) fs; omega
    · intro f hf2
      have g1 : ∀ y : Str, y ∈ fldNames -> ¬ f = y := fun y hy z => hf2 (by rw [z]; exact hy)
      rw [lookup_putF, if_neg (g1 _ (by decide +kernel))]
      refine F1.no f fun z => hf2 ?_
      simp only [List.mem_cons, List.not_mem_nil, or_false] at z ⊢
      rcases z with z | z | z <;> simp [z]
    · have hp : H3 p1 = some (.tup [.int 1, .int 1]) := s3 _ _ e2
      refine paired_of_get (by simp [Vnd.new]) fun j a w ha hw => ?_
      rw [(List.mem_replicate.mp (List.mem_of_getElem? ha)).2, (List.mem_replicate.mp (List.mem_of_getElem? hw)).2, hp]
      rfl
  refine ⟨_, rfl, p2, m, _, rfl, rfl, SqT.of upd_same, by simp, by omega, by omega, (by show 1 <= 1000; decide), fun z => ?_, fun z r hr0 => ?_⟩
  · refine ⟨_, rfl, x, cls 3, dx, fs, rfl, s2 _ _ hX2, HT.cl _ hk3, HT.held _ hk3, by omega, ?_⟩
    have : m = 1 := by omega
    subst this
    exact fin p2 _ (Same.refl _) upd_same
  · refine ⟨_, rfl, x, cls 3, dx, fs, rfl, (s2.trans (Same.new hr0 _)) _ _ hX2, HT.cl _ hk3, HT.held _ hk3, by omega, ?_⟩
    refine fin r _ (Same.new hr0 _) ?_
    rw [upd_same]
    have : (List.replicate (m : Int).toNat [V.ref p1]).flatten = (List.replicate m p1).map V.ref := by
      rw [Int.toNat_natCast]; simp
    rw [this]
end
end Mw
namespace Mw
open PySem L2
section
variable {P : Program} {w : World} {K : PySem.W.Frag} {mg : Str -> Option Value} {base : Heap} {f : Addr} {fd : FuncData} {cls : Nat -> Addr} {ks : List Nat} {np ns nf tc hC tm wb : Addr} {C_Hand C_PlainHand C_MarginHand C_HalvingHand C_SidesHand X_MendError X_NoFraction X_NoPoint X_NoSide X_NoRow X_NoTable X_NoText X_NotParted X_OneSide X_TooMany X_WrongBook T_code T_tab : Addr}
theorem sc_HalvingHand_side_of : FnScope ["self", "point", "switched_on", "common", "told"] ["self", "point"] (defScope (mem 29 1)) := ⟨rfl, rfl, rfl, by decide +kernel, rfl, by decide +kernel, by decide +kernel⟩
theorem ok_HalvingHand_side_of (F : Fun K "side_of" "HalvingHand.side_of" (mem 29 1) f fd) (T : Txt BN mg) (HT : HTx K cls ks) : FnOk P w K mg base (CXE P w) 3 f fd ["self", "point"] (fun vs H Q E => spSide K cls ks vs H Q E /\ ∀ a g us, vs = .ref a :: us -> GAt cls ks H a g -> g.kd = 3) := by
  refine F.okX sc_HalvingHand_side_of (fun vs H Q E h => ?_) (fun cdv A outer s H vs Q E hr h => ?_)
  · obtain ⟨⟨a, p, g, xs, rfl, _⟩, _⟩ := h
    rfl
  obtain ⟨⟨a, p, g, xs, rfl, hA, ho, he, hP, hx, q⟩, hn⟩ := h
  refine ⟨_, (pss_cons (ps_comp (i := 2) sc_HalvingHand_side_of.nd rfl rfl (sc := defScope (mem 29 1)) (N := ["self", "point", "switched_on", "common", "told"]) (NB := ["weight", "number"]) (fr := [none, none]) rfl (by decide +kernel) (pi_zip rfl (T.nb "zip" (by decide)) (pa_cons (pe_fld (pv 0) rfl) (pa_cons (pv 1) pa_nil))) (fun _ _ _ _ => (pg_tupK (K := K) (n := 2) rfl rfl (pgs_cons (pg_name (i := 0) (show (["weight", "number"] : List Str).Nodup by decide +kernel) rfl (Or.inl rfl)) (pgs_cons (pg_name (i := 1) (show (["weight", "number"] : List Str).Nodup by decide +kernel) rfl (Or.inl rfl)) pgs_nil)))) (fun _ _ _ _ => .one (pt_cmpR op_eq (pv 1) pe_int (nomark _))) (fun _ _ _ _ => (pv 0)))
      (pss_cons (ps_set (i := 3) sc_HalvingHand_side_of.nd rfl (Or.inr rfl) (pe_callB (call_maxL rfl) rfl (T.nb "max" (by decide)) (by decide +kernel) (pa_cons (pe_comp (sc := defScope (mem 29 1)) (N := ["self", "point", "switched_on", "common", "told"]) (NB := ["top", "bottom"]) (fr := [none, none]) rfl (by decide +kernel) (pi_tup (pe_fld (pv 0) rfl)) (fun _ _ _ _ => (pg_tupK (K := K) (n := 2) rfl rfl (pgs_cons (pg_name (i := 0) (show (["top", "bottom"] : List Str).Nodup by decide +kernel) rfl (Or.inl rfl)) (pgs_cons (pg_name (i := 1) (show (["top", "bottom"] : List Str).Nodup by decide +kernel) rfl (Or.inl rfl)) pgs_nil)))) (fun _ _ _ _ => .nil) (fun _ _ _ _ => (pv 1))) pa_nil)))
      (pss_cons (ps_set (i := 4) sc_HalvingHand_side_of.nd rfl (Or.inl rfl) (pe_callB (call_sumI rfl) rfl (T.nb "sum" (by decide)) (by decide +kernel) (pa_cons (pe_comp (sc := defScope (mem 29 1)) (N := ["self", "point", "switched_on", "common", "told"]) (NB := ["top", "bottom", "common"]) (fr := [none, none, some 3]) rfl (by decide +kernel) (pi_list (pv 2)) (fun _ _ _ _ => (pg_tupK (K := K) (n := 2) rfl rfl (pgs_cons (pg_name (i := 0) (show (["top", "bottom", "common"] : List Str).Nodup by decide +kernel) rfl (Or.inl rfl)) (pgs_cons (pg_name (i := 1) (show (["top", "bottom", "common"] : List Str).Nodup by decide +kernel) rfl (Or.inl rfl)) pgs_nil)))) (fun _ _ _ _ => .nil) (fun _ _ _ _ => (pe_op op_mulB (pv 0) (pe_op op_fdivP (pv 2) (pv 1))))) pa_nil)))
      (pss_one (ps_ret (pe_ifExp (pt_cmpR op_ge (pv 4) (pe_op op_mulB (pe_fld (pv 0) rfl) (pv 3)) (nomark _)) pe_int pe_int)))))), ?_⟩
  have hk3 := hn a g _ rfl hA
  obtain ⟨dx, fs, t, e, F1, ht⟩ := hA.ex
  cases g with
  | p h => exact absurd (show h.kd = 3 from hk3) (by have := hA.pk h rfl; omega)
  | s h => exact absurd (show 4 = 3 from hk3) (by decide)
  | v h =>
  have hx : h.PtOk xs := hx
  have ho : h.Ok := ho
  have he : h.err <= 300 := he
  have hl := hx.len
  have hp := ho.pos
  have hf := ho.few
  have hw := ho.len
  obtain ⟨ts, ht1, htp⟩ := (show ∃ ts : List Addr, H t = some (.tup (ts.map V.ref)) /\ Paired (fun a w => H a = some (.tup [.int (top2 w), .int (bot2 w)])) ts h.pw from ht)
  have htl : ts.length = h.many := by rw [paired_len htp, hw]
  have hts : ∀ (i : Nat) x, (ts.map V.ref)[i]? = some x -> ∃ A w, x = .ref A /\ ts[i]? = some A /\ h.pw[i]? = some w /\ H A = some (.tup [.int (top2 w), .int (bot2 w)]) := fun i x hi => by
    obtain ⟨A, hA1, rfl⟩ := of_map hi
    obtain ⟨w, hw1, hw2⟩ := paired_get htp hA1
    exact ⟨A, w, rfl, hA1, hw1, hw2⟩
  have hlow : ∀ w ∈ h.pw, w.natAbs <= 300 := fun w hw => Nat.le_trans (ho.low w hw) he
  refine ⟨_, rfl, a, _, dx, fs, _, rfl, e, HT.cl _ hA.kin, HT.held _ hA.kin, F1.held, _, rfl, true, true, t, p, rfl, ⟨_, SqT.of ht1⟩, ⟨_, hP⟩, fun D hD => ?_⟩
  refine comp_zip_filter (us := ts.map V.ref) (vs := xs.map V.int) (fun i => decide (xs.getD i 0 = 1)) (fun i => V.ref (ts.getD i 0)) (SqT.of ht1) hP (by rw [List.length_map]; exact Nat.le_of_lt (small1000 (by omega))) hD ?_ ?_
  · intro i x y T1 H' R R' hx1 hy1 s1 hT1 r1 r2
    obtain ⟨A, w, rfl, hA1, hw1, hw2⟩ := hts i x hx1
    obtain ⟨n1, hn1, rfl⟩ := of_map hy1
    have eA : ts.getD i 0 = A := by rw [List.getD_eq_getElem?_getD, hA1]; rfl
    have en : xs.getD i 0 = n1 := by rw [List.getD_eq_getElem?_getD, hn1]; rfl
    simp only [eA, en] at r1 r2
    refine ⟨T1, _, rfl, SqT.of upd_same, rfl, _, _, rfl, _, _, rfl, rfl, wk_none (n := 2) rfl, ?_⟩
    refine ⟨_, rfl, rfl, _, rfl, ?_⟩
    by_cases z : n1 = 1
    · rw [decide_eq_true (show V.int n1 = V.int 1 by rw [z])]
      exact iteT ⟨_, rfl, r1 (by simpa using z) _ (Same.refl _)⟩
    · rw [decide_eq_false (show ¬ V.int n1 = V.int 1 from fun y => z (by injection y))]
      exact iteF (r2 (by simpa using z) _ (Same.refl _))
  intro H1 s1 hD1
  have emin : min (ts.map V.ref).length (xs.map V.int).length = h.many := by rw [List.length_map, List.length_map, htl, hl]; exact Nat.min_self _
  rw [emin] at hD1
  refine ⟨_, rfl, a, _, dx, fs, _, rfl, s1 _ _ e, HT.cl _ hA.kin, HT.held _ hA.kin, F1.held, t, rfl, ⟨_, SqT.of (s1 _ _ ht1)⟩, fun D2 hD2 => ?_⟩
  refine comp_tup_rel (xs := ts.map V.ref) (fun _ i y => ∃ w, h.pw[i]? = some w /\ y = V.int (bot2 w)) (fun _ _ _ _ _ r => r) (SqT.of (s1 _ _ ht1)) (by rw [List.length_map]; exact Nat.le_of_lt (small1000 (by omega))) hD2 ?_ ?_
  · intro i x H' R hx1 s2 _ r1
    obtain ⟨A, w, rfl, hA1, hw1, hw2⟩ := hts i x hx1
    refine ⟨A, _, rfl, SqT.of (s2 _ _ (s1 _ _ hw2)), rfl, _, _, rfl, _, _, rfl, rfl, wk_none (n := 2) rfl, ?_⟩
    exact ⟨_, rfl, r1 _ _ (Same.refl _) ⟨w, hw1, rfl⟩⟩
  intro ys H2 s2 hL2 hyl hys
  have eys : ys = (h.pw.map bot2).map V.int := by
    refine List.ext_getElem? fun j => ?_
    by_cases hj : j < ys.length
    · obtain ⟨w, hw1, hw2⟩ := hys j _ (List.getElem?_eq_getElem hj)
      rw [List.getElem?_eq_getElem hj, hw2, List.getElem?_map, List.getElem?_map, hw1]; rfl
    · rw [List.getElem?_eq_none (by omega), List.getElem?_eq_none (by rw [List.length_map, List.length_map, hw]; rw [List.length_map] at hyl; omega)]
  subst eys
  refine ⟨D2, h.pw.map bot2, rfl, SqL.of hL2, by rw [List.length_map]; omega, fun m hm1 hm2 => ?_⟩
  obtain ⟨w0, hw0, rfl⟩ := List.mem_map.mp hm1
  generalize hE : (-w0).toNat = E at *
  have hEb : bot2 w0 = 2 ^ E := by unfold bot2; rw [hE]
  rw [hEb] at hm2
  have hEw : ∀ w ∈ h.pw, (-w).toNat <= E := fun w hwm => by
    have := hm2 (bot2 w) (List.mem_map.mpr ⟨w, hwm, rfl⟩)
    unfold bot2 at this
    rcases Nat.lt_or_ge E (-w).toNat with z | z
    · have : (2 : Int) ^ E < 2 ^ (-w).toNat := pow2_lt z
      omega
    · exact z
  have hE3 : E <= h.err := by have := ho.low w0 hw0; omega
  rw [hEb]
  have hos : picked (fun i => decide (xs.getD i 0 = 1)) (fun i => V.ref (ts.getD i 0)) h.many = (((List.range h.many).filter fun i => decide (xs.getD i 0 = 1)).map fun i => ts.getD i 0).map V.ref := by
    unfold picked; rw [List.map_map]; rfl
  rw [hos] at hD1
  generalize hO : (List.range h.many).filter (fun i => decide (xs.getD i 0 = 1)) = os at *
  have hom : ∀ i ∈ os, i < h.many := fun i hi => by rw [<- hO] at hi; exact List.mem_range.mp (List.mem_filter.mp hi).1
  have hol : os.length <= h.many := by rw [<- hO]; exact Nat.le_trans (List.length_filter_le _ _) (by rw [List.length_range]; exact Nat.le_refl _)
  refine ⟨_, rfl, D, rfl, ⟨_, SqL.of (s2 _ _ hD1)⟩, fun D3 hD3 => ?_⟩
  refine comp_list_rel (xs := (os.map fun i => ts.getD i 0).map V.ref) (fun _ i y => ∃ o, os[i]? = some o /\ y = V.int (2 ^ (h.pw.getD o 0 + (E : Int)).toNat)) (fun _ _ _ _ _ r => r) (SqL.of (s2 _ _ hD1)) (by rw [List.length_map, List.length_map]; exact Nat.le_of_lt (small1000 (by omega))) hD3 ?_ ?_
  · intro i x H' R hx1 s3 _ r1
    obtain ⟨A, hA1, rfl⟩ := of_map hx1
    rw [List.getElem?_map] at hA1
    cases ho1 : os[i]? with
    | none => rw [ho1] at hA1; cases hA1
    | some o =>
    rw [ho1] at hA1
    have hoi := hom o (List.mem_of_getElem? ho1)
    have hA2 : ts[o]? = some A := by
      have e1 : ts.getD o 0 = A := Option.some.inj hA1
      rw [List.getElem?_eq_getElem (by omega), <- e1, List.getD_eq_getElem?_getD, List.getElem?_eq_getElem (by omega)]; rfl
    obtain ⟨w, hw1, hw2⟩ := paired_get htp hA2
    have ew : h.pw.getD o 0 = w := by rw [List.getD_eq_getElem?_getD, hw1]; rfl
    have hwm := List.mem_of_getElem? hw1
    have b1 := hlow w hwm
    have b2 := hEw w hwm
    refine ⟨A, _, rfl, SqT.of (s3 _ _ (s2 _ _ (s1 _ _ hw2))), rfl, _, _, rfl, _, _, rfl, rfl, ⟨rfl, ?_⟩, ?_⟩
    · intro k v ek
      match k, ek with
      | 2, ek => exact ek
      | 0, ek => simp [carry] at ek
      | 1, ek => simp [carry] at ek
      | k + 3, ek => simp [carry] at ek
    have hbb : Bits 1000 (bot2 w) := bits_pow (by omega)
    have hq : Bits 1000 ((2 : Int) ^ E / bot2 w) := by
      have z : (2 : Int) ^ E / bot2 w = 2 ^ (E - (-w).toNat) := by
        unfold bot2
        obtain ⟨d, hd⟩ : ∃ d, E = d + (-w).toNat := ⟨E - (-w).toNat, by omega⟩
        rw [hd, Int.pow_add, Int.mul_ediv_cancel _ (Int.ne_of_gt (pow2_pos _))]
        congr 1
        omega
      rw [z]; exact bits_pow (by omega)
    refine ⟨_, rfl, _, rfl, _, rfl, _, _, rfl, rfl, ⟨bot2_pos w, hbb.mono (by decide)⟩, _, _, rfl, rfl, ⟨1000, by decide, bits_pow (by omega), hq⟩, ?_⟩
    refine r1 _ _ (Same.refl _) ⟨o, ho1, ?_⟩
    rw [ew, <- tb_div b2]
  intro ys H3 s3 hL3 hyl hys
  have eys : ys = (os.map fun o => (2 : Int) ^ (h.pw.getD o 0 + (E : Int)).toNat).map V.int := by
    refine List.ext_getElem? fun j => ?_
    by_cases hj : j < ys.length
    · obtain ⟨o, ho1, ho2⟩ := hys j _ (List.getElem?_eq_getElem hj)
      rw [List.getElem?_eq_getElem hj, ho2, List.getElem?_map, List.getElem?_map, ho1]; rfl
    · rw [List.getElem?_eq_none (by omega), List.getElem?_eq_none (by rw [List.length_map, List.length_map]; rw [List.length_map, List.length_map] at hyl; omega)]
  subst eys
  refine ⟨D3, _, rfl, SqL.of hL3, ?_⟩
  have em : (os.map fun o => (2 : Int) ^ (h.pw.getD o 0 + (E : Int)).toNat).sum = much h.pw xs E := by rw [much_range hw hl, hO]
  rw [em]
  have s13 := s1.trans (s2.trans s3)
  refine ⟨_, rfl, _, rfl, a, _, dx, fs, _, rfl, s13 _ _ e, HT.cl _ hA.kin, HT.many _ hA.kin, F1.many, _, rfl, _, _, rfl, rfl, ⟨1000, by decide, bits_low (by show (-1000 : Int) <= ((h.many : Nat) : Int); omega) (by show ((h.many : Nat) : Int) <= 1000; omega) (by decide), bits_pow (by omega)⟩, _, _, rfl, rfl, _, rfl, ?_⟩
  have q1 : Q (.int (h.tell xs)) H3 := q H3 s13
  have ml := much_le (pw := h.pw) (p := xs) (m := (h.many : Int)) (e := E) (f := h.err) (fun w hwm => by have := hEw w hwm; omega) hE3
  unfold Vnd.tell at q1
  refine iteD (fun n => ?_) (fun n => ?_)
  · rw [if_pos (ml.mpr n)] at q1; exact q1
  · rw [if_neg (fun z => n (ml.mp z))] at q1; exact q1
end
end Mw
namespace Mw
open PySem L2
section
variable {P : Program} {w : World} {K : PySem.W.Frag} {mg : Str -> Option Value} {base : Heap} {f : Addr} {fd : FuncData} {cls : Nat -> Addr} {ks : List Nat} {np ns nf tc hC tm wb : Addr} {C_Hand C_PlainHand C_MarginHand C_HalvingHand C_SidesHand X_MendError X_NoFraction X_NoPoint X_NoSide X_NoRow X_NoTable X_NoText X_NotParted X_OneSide X_TooMany X_WrongBook T_code T_tab : Addr}
theorem sc_HalvingHand_mend : FnScope ["self", "point", "side", "times"] ["self", "point", "side"] (defScope (mem 29 2)) := ⟨rfl, rfl, rfl, by decide +kernel, rfl, by decide +kernel, by decide +kernel⟩
theorem ok_HalvingHand_mend (F : Fun K "mend" "HalvingHand.mend" (mem 29 2) f fd) (T : Txt BN mg) (HT : HTx K cls ks) (c_by : CalX P w K mg base 3 "by" ["one", "other"] (spFrac K nf topMul botMul)) : FnOk P w K mg base (CXE P w) 4 f fd ["self", "point", "side"] (fun vs H Q E => spMd K cls ks vs H Q E /\ ∀ a g us, vs = .ref a :: us -> GAt cls ks H a g -> g.kd = 3) := by
  refine F.okX sc_HalvingHand_mend (fun vs H Q E h => ?_) (fun cdv A outer s H vs Q E hr h => ?_)
  · obtain ⟨⟨a, p, g, xs, s0, rfl, _⟩, _⟩ := h
    rfl
  obtain ⟨⟨a, p, g, xs, s0, rfl, hA, ho, he, hP, hx, hs, q⟩, hn⟩ := h
  refine ⟨_, (pss_cons (ps_join (ps_set (i := 3) sc_HalvingHand_mend.nd rfl (Or.inr rfl) (pe_ifExp (pt_cmpR op_eq (pv 2) pe_int (nomark _)) (pe_tup (pa_cons pe_int (pa_cons pe_int pa_nil))) (pe_tup (pa_cons pe_int (pa_cons pe_int pa_nil))))))
      (pss_one (ps_fld (pv 0) (pe_callTy (call_tupleK (K := K) rfl) rfl (T.nb "tuple" (by decide)) (by decide +kernel) (pa_cons (pe_comp (sc := defScope (mem 29 2)) (N := ["self", "point", "side", "times"]) (NB := ["weight", "number", "times"]) (fr := [none, none, some 3]) rfl (by decide +kernel) (pi_zip rfl (T.nb "zip" (by decide)) (pa_cons (pe_fld (pv 0) rfl) (pa_cons (pv 1) pa_nil))) (fun _ _ _ _ => (pg_tupK (K := K) (n := 2) rfl rfl (pgs_cons (pg_name (i := 0) (show (["weight", "number", "times"] : List Str).Nodup by decide +kernel) rfl (Or.inl rfl)) (pgs_cons (pg_name (i := 1) (show (["weight", "number", "times"] : List Str).Nodup by decide +kernel) rfl (Or.inl rfl)) pgs_nil)))) (fun _ _ _ _ => .nil) (fun _ _ _ _ => (pe_ifExp (pt_cmpR op_eq (pv 1) pe_int (nomark _)) (pe_calG c_by (hr.mono (by decide)) rfl passG_never (pa_cons (pv 0) (pa_cons (pv 2) pa_nil))) (pv 0)))) pa_nil)) rfl))), ?_⟩
  have hk3 := hn a g _ rfl hA
  obtain ⟨dx, fs, t, e, F1, ht⟩ := hA.ex
  cases g with
  | p h => exact absurd (show h.kd = 3 from hk3) (by have := hA.pk h rfl; omega)
  | s h => exact absurd (show 4 = 3 from hk3) (by decide)
  | v h =>
  have hx : h.PtOk xs := hx
  have ho : h.Ok := ho
  have he : h.err <= 301 := he
  have hs : s0 = 0 \/ s0 = 1 := of_decide_eq_true hs
  have hl := hx.len
  have hp := ho.pos
  have hf := ho.few
  have hw := ho.len
  obtain ⟨ts, ht1, htp⟩ := (show ∃ ts : List Addr, H t = some (.tup (ts.map V.ref)) /\ Paired (fun a w => H a = some (.tup [.int (top2 w), .int (bot2 w)])) ts h.pw from ht)
  have htl : ts.length = h.many := by rw [paired_len htp, hw]
  have hlow : ∀ w ∈ h.pw, w.natAbs <= 301 := fun w hw => Nat.le_trans (ho.low w hw) he
  refine ⟨fun σ H' => ∃ tm, σ = [some (.ref a), some (.ref p), some (.int s0), some (.ref tm)] /\ Same H H' /\ H' tm = some (.tup [.int (if s0 = 1 then 2 else 1), .int (if s0 = 1 then 1 else 2)]), ?_, ?_⟩
  · refine ⟨_, rfl, rfl, _, rfl, ?_⟩
    rcases hs with rfl | rfl
    · exact iteF ⟨(by show 2 <= sizeLine; decide), fun p hp => ⟨p, rfl, Same.new hp _, upd_same⟩⟩
    · exact iteT ⟨(by show 2 <= sizeLine; decide), fun p hp => ⟨p, rfl, Same.new hp _, upd_same⟩⟩
  rintro σ H1 ⟨tm, rfl, s1, htm⟩
  refine ⟨_, rfl, a, _, dx, fs, _, rfl, s1 _ _ e, HT.cl _ hA.kin, HT.held _ hA.kin, F1.held, _, rfl, true, true, t, p, rfl, ⟨_, SqT.of (s1 _ _ ht1)⟩, ⟨_, s1.seqT hP⟩, fun D hD => ?_⟩
  generalize hM : Vnd.mend h.pw xs s0 = M at *
  have hMl : M.length = h.many := by rw [<- hM]; unfold Vnd.mend; rw [List.length_zipWith, hw, hl]; exact Nat.min_self _
  refine comp_zip_rel (us := ts.map V.ref) (vs := xs.map V.int) (fun H' i y => ∃ b w, y = V.ref b /\ b ≠ D /\ M[i]? = some w /\ H' b = some (.tup [.int (top2 w), .int (bot2 w)])) ?_ (SqT.of (s1 _ _ ht1)) (s1.seqT hP) (by rw [List.length_map]; exact Nat.le_of_lt (small1000 (by omega))) hD ?_ ?_
  · rintro H' H'' i y o ⟨b, w, e1, e2, e3, e4⟩
    exact ⟨b, w, e1, e2, e3, o _ _ e2 e4⟩
  · intro i x y T1 H' R hx1 hy1 s2 hDn hT1 r1
    obtain ⟨A, hA1, rfl⟩ := of_map hx1
    obtain ⟨w, hw1, hw2⟩ := paired_get htp hA1
    obtain ⟨n1, hn1, rfl⟩ := of_map hy1
    have hAD : A ≠ D := ne_of_none (s1 _ _ hw2) hD
    have sT := Same.new hT1 (.tup [V.ref A, V.int n1])
    have hA' := sT _ _ (s2 _ _ (s1 _ _ hw2))
    have htm' := sT _ _ (s2 _ _ htm)
    have hM1 : M[i]? = some (if n1 = 1 then w + (2 * s0 - 1) else w) := by rw [<- hM]; unfold Vnd.mend; exact zipWith_get hw1 hn1
    have b1 := hlow w (List.mem_of_getElem? hw1)
    refine ⟨T1, _, rfl, SqT.of upd_same, rfl, _, _, rfl, _, _, rfl, rfl, ⟨rfl, ?_⟩, ?_⟩
    · intro k v ek
      match k, ek with
      | 2, ek => exact ek
      | 0, ek => simp [carry] at ek
      | 1, ek => simp [carry] at ek
      | k + 3, ek => simp [carry] at ek
    refine ⟨_, rfl, rfl, _, rfl, ?_⟩
    by_cases z : n1 = 1
    · rw [decide_eq_true (show V.int n1 = V.int 1 by rw [z])]
      rw [if_pos z] at hM1
      have hb2 : ∀ c : Int, c = 1 \/ c = 2 -> Bits 1000 c := fun c hc => bits_low (by omega) (by omega) (by decide)
      refine iteT ⟨_, rfl, _, rfl, A, tm, _, _, _, _, rfl, SqT.of hA', SqT.of htm', bits_pow (by omega), bits_pow (by omega), hb2 _ (by split <;> omega), hb2 _ (by split <;> omega), fun y => ?_, fun _ p2 hp2 => ?_⟩
      · exact absurd y (by
          show ¬ bot2 w * (if s0 = 1 then 1 else 2) = 0
          have := bot2_pos w
          rcases hs with rfl | rfl
          · show ¬ bot2 w * 2 = 0; omega
          · show ¬ bot2 w * 1 = 0; omega)
      · have hpD : p2 ≠ D := fun y => by
          have hDT : D ≠ T1 := fun u => hDn (by rw [u]; exact hT1)
          rw [y] at hp2
          rw [upd_ne hDT] at hp2
          exact hDn hp2
        refine r1 _ _ (Same.new hp2 _) ⟨p2, w + (2 * s0 - 1), rfl, hpD, hM1, ?_⟩
        rw [upd_same]
        rcases hs with rfl | rfl
        · have y := tb_hlf w
          show some (HO.tup [V.int (ptop (top2 w * 1) (bot2 w * 2)), V.int (pbot (top2 w * 1) (bot2 w * 2))]) = _
          rw [y.1, y.2]; rfl
        · have y := tb_dbl w
          show some (HO.tup [V.int (ptop (top2 w * 2) (bot2 w * 1)), V.int (pbot (top2 w * 2) (bot2 w * 1))]) = _
          rw [y.1, y.2]; rfl
    · rw [decide_eq_false (show ¬ V.int n1 = V.int 1 from fun y => z (by injection y))]
      rw [if_neg z] at hM1
      exact iteF ⟨_, rfl, r1 _ _ (Same.refl _) ⟨A, w, rfl, hAD, hM1, hA'⟩⟩
  intro ys H2 s2 hL2 hyl hys
  obtain ⟨bs, rfl, hbs⟩ := refs_of (P := fun j b => ∃ w, M[j]? = some w /\ H2 b = some (.tup [.int (top2 w), .int (bot2 w)])) (fun j y hy => by
    obtain ⟨b, w, e1, e2, e3, e4⟩ := hys j y hy
    exact ⟨b, e1, w, e3, e4⟩)
  refine ⟨D, _, rfl, .inl ⟨SqL.of hL2, fun t2 ht2 => ?_⟩⟩
  have s3 := s2.trans (Same.new ht2 (.tup (bs.map V.ref)))
  have s13 := s1.trans s3
  refine ⟨_, rfl, a, _, dx, fs, rfl, s13 _ _ e, HT.cl _ hA.kin, HT.held _ hA.kin, by have := F1.few; omega, ?_⟩
  refine q _ ((Kp.of s13).upd_ins (s13 _ _ e) (by simp)) (hA.held_set (s13 _ _ e) F1 xs s0 ?_ (fun h z => (hA.ts h z).map (fun _ _ y => s13 _ _ y) fun _ _ y => s13 _ _ y))
  show ∃ ts : List Addr, _ /\ Paired _ ts (Vnd.mend h.pw xs s0)
  rw [hM]
  refine ⟨bs, upd_same, paired_of_get ?_ fun j b w hb hw1 => ?_⟩
  · rw [List.length_map, List.length_map, List.length_map, htl, hl] at hyl
    rw [hMl, hyl]; exact Nat.min_self _
  · obtain ⟨w2, e1, e2⟩ := hbs j b hb
    rw [hw1] at e1
    cases e1
    exact (Same.new ht2 _) _ _ e2
end
end Mw
namespace Mw
open PySem L2
section
variable {P : Program} {w : World} {K : PySem.W.Frag} {mg : Str -> Option Value} {base : Heap} {f : Addr} {fd : FuncData} {cls : Nat -> Addr} {ks : List Nat} {np ns nf tc hC tm wb : Addr} {C_Hand C_PlainHand C_MarginHand C_HalvingHand C_SidesHand X_MendError X_NoFraction X_NoPoint X_NoSide X_NoRow X_NoTable X_NoText X_NotParted X_OneSide X_TooMany X_WrongBook T_code T_tab : Addr}
theorem sc_SidesHand___init__ : FnScope ["self", "many", "sides"] ["self", "many", "sides"] (defScope (mem 30 0)) := ⟨rfl, rfl, rfl, by decide +kernel, rfl, by decide +kernel, by decide +kernel⟩
theorem ok_SidesHand___init__ (F : Fun K "__init__" "SidesHand.__init__" (mem 30 0) f fd) (T : Txt BN mg) (HT : HTx K cls ks) (b_Hand___init__ : BCal P w K mg base 2 "Hand" "__init__" ["self", "many"] (spBI cls ks)) : FnOk P w K mg base (CXE P w) 3 f fd ["self", "many", "sides"] (fun vs H Q E => 4 ∈ ks /\ SpInit (cls 4) (spNewS (gI Gnd.s cls ks)) vs H Q E) := by
  refine F.okX sc_SidesHand___init__ (fun vs H Q E h => ?_) (fun cdv A outer s H vs Q E hr h => ?_)
  · obtain ⟨_, x, dx, us, H1, rfl, _, _, _, _, m, n, rfl, _⟩ := h
    rfl
  obtain ⟨hk4, x, dx, us, H1, rfl, hx, hd, hn, rfl, m, n, rfl, h0, h4, h2, h5, hts, q⟩ := h
  refine ⟨_, (pss_cons (ps_expr (pe_baseG b_Hand___init__ (hr.mono (by decide)) rfl passG_out (pa_cons (pv 0) (pa_cons (pv 1) pa_nil))))
      (pss_cons (ps_fld (pv 0) (pv 2) rfl)
      (pss_one (ps_fld (pv 0) (pe_op op_repA (pe_tup (pa_cons (pe_op op_repA (pe_tup (pa_cons pe_int pa_nil)) (pe_op op_add (pv 1) pe_int)) pa_nil)) (pv 2)) rfl)))), ?_⟩
  refine ⟨_, rfl, _, rfl, x, cls 4, dx, m, rfl, upd_same, ⟨4, hk4, rfl⟩, h0, by omega, fun H2 fs t kp hX2 F1 ht => ?_⟩
  have hf := F1.few
  have cl := HT.cl _ hk4
  refine ⟨_, rfl, _, rfl, x, cls 4, dx, fs, rfl, hX2, cl, HT.sides hk4, by omega, ?_⟩
  have hl1 := length_putF "sides" (V.int n) fs
  generalize hfs1 : putF "sides" (V.int n) fs = fs1 at *
  refine ⟨(by show 1 <= sizeLine; decide), fun p1 hp1 => ⟨_, rfl, _, _, rfl, rfl, p1, m + 1, _, rfl, rfl, upd_same, by simp, by omega, by omega, by simp, fun r1 H3 s3 hr10 hR1 => ⟨(by show 1 <= sizeLine; decide), fun p2 hp2 => ⟨_, rfl, p2, n, _, rfl, rfl, upd_same, by simp, by omega, by omega, by simp, fun r2 H4 s4 hr20 hR2 => ?_⟩⟩⟩⟩
  have t1 := Same.new hp1 (.tup [.int 0])
  have t2 := Same.new hp2 (.tup [.ref r1])
  have sA : Same (upd H2 x (.ins (cls 4) dx fs1)) H4 := t1.trans (s3.trans (t2.trans s4))
  have hX4 : H4 x = some (.ins (cls 4) dx fs1) := sA _ _ upd_same
  have hR14 : H4 r1 = some (.tup ((List.replicate (m + 1) (0 : Int)).map V.int)) := by
    rw [(t2.trans s4) _ _ hR1]
    simp
  have hR24 : H4 r2 = some (.tup ((List.replicate n r1).map V.ref)) := by rw [hR2]; simp
  refine ⟨_, rfl, x, cls 4, dx, fs1, rfl, hX4, cl, HT.held _ hk4, by omega, ?_⟩
  have hl2 := length_putF "held" (V.ref r2) fs1
  have off : ∀ b o, b ≠ x -> H1 b = some o -> H4 b = some o := fun b o bx hb => by
    have bd : b ≠ dx := ne_of_none hb hd
    have h2 := kp b o bx (by rw [upd_ne bx, upd_ne bd]; exact hb)
    exact sA _ _ (by rw [upd_ne bx]; exact h2)
  have sm : Same H1 (upd H4 x (.ins (cls 4) dx (putF "held" (.ref r2) fs1))) := fun b o hb => by
    have bx : b ≠ x := ne_of_none hb hx
    rw [upd_ne bx]
    exact off b o bx hb
  refine q x _ sm hx ⟨⟨dx, _, r2, upd_same, ⟨?_, ?_, ?_, ?_, ?_, ?_, ?_⟩, HeldAt.upd_ins (H := H4) (g := .s (Snd.new m n)) ⟨List.replicate n r1, hR24, ?_⟩ hX4⟩, hk4, (fun h e => by cases e), fun h e => hts.map (fun _ _ z => sm _ _ z) fun _ _ z => sm _ _ z⟩ rfl
  · rw [lookup_putF, if_neg (by decide +kernel), <- hfs1, lookup_putF, if_neg (by decide +kernel)]; exact F1.many
  · rw [lookup_putF, if_pos rfl]
  · rw [lookup_putF, if_neg (by decide +kernel), <- hfs1, lookup_putF, if_neg (by decide +kernel)]; exact F1.made
  · intro h e; cases e
  · intro h e; cases e; rw [lookup_putF, if_neg (by decide +kernel), <- hfs1, lookup_putF, if_pos rfl]; rfl
  · omega
  · intro f hf2
    have g1 : ∀ y : Str, y ∈ fldNames -> ¬ f = y := fun y hy z => hf2 (by rw [z]; exact hy)
    rw [lookup_putF, if_neg (g1 _ (by decide +kernel)), <- hfs1, lookup_putF, if_neg (g1 _ (by decide +kernel))]
    refine F1.no f fun z => hf2 ?_
    simp only [List.mem_cons, List.not_mem_nil, or_false] at z ⊢
    rcases z with z | z | z <;> simp [z]
  · refine paired_of_get (by simp [Snd.new]) fun j b w hb hw => ?_
    rw [(List.mem_replicate.mp (List.mem_of_getElem? hb)).2, (List.mem_replicate.mp (List.mem_of_getElem? hw)).2, hR14]
end
end Mw
namespace Mw
open PySem L2
section
variable {P : Program} {w : World} {K : PySem.W.Frag} {mg : Str -> Option Value} {base : Heap} {f : Addr} {fd : FuncData} {cls : Nat -> Addr} {ks : List Nat} {np ns nf tc hC tm wb : Addr} {C_Hand C_PlainHand C_MarginHand C_HalvingHand C_SidesHand X_MendError X_NoFraction X_NoPoint X_NoSide X_NoRow X_NoTable X_NoText X_NotParted X_OneSide X_TooMany X_WrongBook T_code T_tab : Addr}
theorem sc_SidesHand_has_side : FnScope ["self", "side"] ["self", "side"] (defScope (mem 30 1)) := ⟨rfl, rfl, rfl, by decide +kernel, rfl, by decide +kernel, by decide +kernel⟩
theorem ok_SidesHand_has_side (F : Fun K "has_side" "SidesHand.has_side" (mem 30 1) f fd) (T : Txt BN mg) (HT : HTx K cls ks) : FnOk P w K mg base (CXE P w) 2 f fd ["self", "side"] (fun vs H Q E => spHas cls ks vs H Q E /\ ∀ a g us, vs = .ref a :: us -> GAt cls ks H a g -> g.kd = 4) := by
  refine F.okX sc_SidesHand_has_side (fun vs H Q E h => ?_) (fun cdv A outer s H vs Q E hr h => ?_)
  · obtain ⟨⟨a, g, s0, rfl, _⟩, _⟩ := h
    rfl
  obtain ⟨⟨a, g, s0, rfl, hA, q⟩, hn⟩ := h
  refine ⟨_, (pss_one (ps_ret (pe_chain op_le op_lt pe_int (pv 1) (pe_fld (pv 0) rfl)))), ?_⟩
  have hk := hn a g _ rfl hA
  obtain ⟨dx, fs, t, e, F1, ht⟩ := hA.ex
  cases g with
  | p h => exact absurd hk (by have := hA.pk h rfl; show ¬ h.kd = 4; omega)
  | v h => exact absurd (show 3 = 4 from hk) (by decide)
  | s h =>
  have q1 := q H (Same.refl _)
  have e1 : (Gnd.s h).has s0 = decide (0 <= s0 /\ s0 < h.sides) := rfl
  rw [e1] at q1
  refine ⟨_, rfl, _, _, rfl, rfl, _, rfl, ?_⟩
  refine iteD (fun z => ?_) (fun z => ?_)
  · have z1 : (0 : Int) <= s0 := z
    refine ⟨_, rfl, a, _, dx, fs, _, rfl, e, HT.cl _ hA.kin, HT.sides hA.kin, F1.sides h rfl, _, _, rfl, rfl, ?_⟩
    rw [show decide (0 <= s0 /\ s0 < (h.sides : Int)) = decide (s0 < (h.sides : Int)) by simp [z1]] at q1
    exact q1
  · have z1 : ¬ (0 : Int) <= s0 := z
    rw [decide_eq_false (fun y => z1 y.1)] at q1
    exact q1
end
end Mw
namespace Mw
open PySem L2
section
variable {P : Program} {w : World} {K : PySem.W.Frag} {mg : Str -> Option Value} {base : Heap} {f : Addr} {fd : FuncData} {cls : Nat -> Addr} {ks : List Nat} {np ns nf tc hC tm wb : Addr} {C_Hand C_PlainHand C_MarginHand C_HalvingHand C_SidesHand X_MendError X_NoFraction X_NoPoint X_NoSide X_NoRow X_NoTable X_NoText X_NotParted X_OneSide X_TooMany X_WrongBook T_code T_tab : Addr}
theorem sc_SidesHand_side_products : FnScope ["self", "point"] ["self", "point"] (defScope (mem 30 2)) := ⟨rfl, rfl, rfl, by decide +kernel, rfl, by decide +kernel, by decide +kernel⟩
theorem ok_SidesHand_side_products (F : Fun K "side_products" "SidesHand.side_products" (mem 30 2) f fd) (T : Txt BN mg) (HT : HTx K cls ks) (c_told_by : Cal P w K mg base 2 "told_by" ["weights", "point"] (spTold K)) : FnOk P w K mg base (CXE P w) 4 f fd ["self", "point"] (spProdsS K cls ks) := by
  refine F.okX sc_SidesHand_side_products (fun vs H Q E h => ?_) (fun cdv A outer s H vs Q E hr h => ?_)
  · obtain ⟨a, p, h, xs, rfl, _⟩ := h
    rfl
  obtain ⟨a, p, h, xs, rfl, hA, ho, he, hP, hx, q⟩ := h
  refine ⟨_, (pss_one (ps_ret (pe_comp (sc := defScope (mem 30 2)) (N := ["self", "point"]) (NB := ["weights", "point"]) (fr := [none, some 1]) rfl (by decide +kernel) (pi_tup (pe_fld (pv 0) rfl)) (fun _ _ _ _ => (pg_name (i := 0) (show (["weights", "point"] : List Str).Nodup by decide +kernel) rfl (Or.inl rfl))) (fun _ _ _ _ => .nil) (fun _ _ _ _ => (pe_cal c_told_by (hr.mono (by decide)) rfl (pa_cons (pv 0) (pa_cons (pv 1) pa_nil))))))), ?_⟩
  obtain ⟨dx, fs, t, e, F1, ts, ht1, ht2⟩ := hA.ex
  have hl := hx.len
  have hpos := ho.pos
  have hfew := ho.few
  have hfive := ho.five
  have htl : ts.length = h.sides := by rw [<- ho.len]; exact Paired.length ht2
  refine ⟨_, rfl, a, _, dx, fs, _, rfl, e, HT.cl _ hA.kin, HT.held _ hA.kin, F1.held, t, rfl, ⟨_, SqT.of ht1⟩, fun D hD => ?_⟩
  refine comp_tup_rel (xs := ts.map V.ref) (fun _ i y => ∀ w, h.ws[i]? = some w -> y = .int (dot w (xs ++ [1]))) (fun _ _ _ _ _ h => h) (SqT.of ht1) (by rw [List.length_map]; exact Nat.le_of_lt (small1000 (by omega))) hD ?_ ?_
  · intro i x H1 R hx1 s1 _ r3
    obtain ⟨A, hA1, rfl⟩ := of_map hx1
    obtain ⟨w, hw1, hw2⟩ := paired_get ht2 hA1
    have hwm := List.mem_of_getElem? hw1
    have hwl := ho.lens w hwm
    have hlow := ho.low w hwm
    refine ⟨wk1 rfl, ?_⟩
    refine ⟨_, rfl, _, rfl, A, p, true, w, xs, rfl, SqT.of (s1 _ _ hw2), s1.seqT hP, fun z => by rw [z] at hl; simp at hl; omega, by omega, by omega, fun y hy => ?_, fun y hy => bits_low (hx.low y hy).1 (hx.low y hy).2 (by decide), fun H2 s2 => r3 _ _ s2 fun w' hw' => ?_⟩
    · refine Bits.mono (n := 60) ?_ (by decide)
      show y.natAbs < 2 ^ 60
      have h1 := hlow y hy
      have h2 : errTop + 1 <= 100000000 := by decide
      have h3 : (2 : Nat) ^ 60 = 1152921504606846976 := by decide
      have h4 : 2000 * h.err <= 2000 * 100000000 := Nat.mul_le_mul_left _ (Nat.le_trans he h2)
      omega
    · rw [hw1] at hw'
      rw [<- Option.some.inj hw']
  intro ys H1 s1 hL1 hyl hys
  have ey : ys = (h.prods xs).map V.int := by
    unfold Snd.prods
    rw [List.map_map]
    exact ys_map (by rw [hyl, List.length_map, htl, ho.len]) fun j y w e1 e2 => hys j y e1 w e2
  exact q D H1 s1 hD (by rw [hL1, ey])
end
end Mw
namespace Mw
open PySem L2
section
variable {P : Program} {w : World} {K : PySem.W.Frag} {mg : Str -> Option Value} {base : Heap} {f : Addr} {fd : FuncData} {cls : Nat -> Addr} {ks : List Nat} {np ns nf tc hC tm wb : Addr} {C_Hand C_PlainHand C_MarginHand C_HalvingHand C_SidesHand X_MendError X_NoFraction X_NoPoint X_NoSide X_NoRow X_NoTable X_NoText X_NotParted X_OneSide X_TooMany X_WrongBook T_code T_tab : Addr}
theorem sc_SidesHand_side_of : FnScope ["self", "point", "products", "greatest"] ["self", "point"] (defScope (mem 30 3)) := ⟨rfl, rfl, rfl, by decide +kernel, rfl, by decide +kernel, by decide +kernel⟩
theorem ok_SidesHand_side_of (F : Fun K "side_of" "SidesHand.side_of" (mem 30 3) f fd) (T : Txt BN mg) (HT : HTx K cls ks) (m_side_products : MCal P w K mg base 4 (Kds cls [4]) "side_products" ["self", "point"] (spProdsS K cls ks)) : FnOk P w K mg base (CXE P w) 5 f fd ["self", "point"] (fun vs H Q E => spSide K cls ks vs H Q E /\ ∀ a g us, vs = .ref a :: us -> GAt cls ks H a g -> g.kd = 4) := by
  refine F.okX sc_SidesHand_side_of (fun vs H Q E h => ?_) (fun cdv A outer s H vs Q E hr h => ?_)
  · obtain ⟨⟨a, p, g, xs, rfl, _⟩, _⟩ := h
    rfl
  obtain ⟨⟨a, p, g, xs, rfl, hA, ho, he, hP, hx, q⟩, hn⟩ := h
  refine ⟨_, (pss_cons (ps_set (i := 2) sc_SidesHand_side_of.nd rfl (Or.inl rfl) (pe_methG (pv 0) m_side_products (hr.mono (by decide)) passG_out (pa_cons (pv 1) pa_nil)))
      (pss_cons (ps_set (i := 3) sc_SidesHand_side_of.nd rfl (Or.inl rfl) (pe_callB (call_maxL rfl) rfl (T.nb "max" (by decide)) (by decide +kernel) (pa_cons (pv 2) pa_nil)))
      (pss_cons (ps_if (pt_cmpR op_gt (pe_bm PySem.F.plainAttrs_list PySem.F.slot_list_count PySem.F.type_list_count mt_count (pv 2) (pa_cons (pv 3) pa_nil)) pe_int (nomark _)) (pss_one (ps_ret pe_non)) pss_nil)
      (pss_one (ps_ret (pe_bm PySem.F.plainAttrs_list PySem.F.slot_list_index PySem.F.type_list_index mt_index (pv 2) (pa_cons (pv 3) pa_nil))))))), ?_⟩
  have hk := hn a g _ rfl hA
  obtain ⟨dx, fs, t, e, F1, ht⟩ := hA.ex
  cases g with
  | p h => exact absurd hk (by have := hA.pk h rfl; show ¬ h.kd = 4; omega)
  | v h => exact absurd (show 3 = 4 from hk) (by decide)
  | s h =>
  have ho : h.Ok := ho
  have hx : h.PtOk xs := hx
  have he : h.err <= errTop + 0 := he
  have hne : h.prods xs ≠ [] := fun z => by
    have := congrArg List.length z
    unfold Snd.prods at this
    rw [List.length_map, ho.len] at this
    have := ho.two
    simp at *
    omega
  have hpl : (h.prods xs).length <= 5 := by unfold Snd.prods; rw [List.length_map, ho.len]; exact ho.five
  refine ⟨_, rfl, a, _, dx, fs, rfl, e, ⟨4, by simp, rfl⟩, F1.no _ (by decide +kernel), _, rfl, ⟨_, _, e⟩, a, p, h, xs, rfl, hA, ho, by omega, hP, hx, fun r H1 s1 hr0 hR => ?_⟩
  refine ⟨_, rfl, r, _, rfl, SqL.of hR, List.length_pos_iff.mpr hne, fun mx hm1 hm2 => ?_⟩
  have em := topI_eq hm1 hm2
  subst em
  have q1 := q H1 s1
  have eg : (Gnd.s h).guess xs = guessS (h.prods xs) := rfl
  rw [eg, guess_eq hne] at q1
  refine ⟨_, rfl, .inl ⟨rfl, _, SqL.of hR⟩, _, rfl, r, _, _, rfl, rfl, hR, _, _, rfl, rfl, _, rfl, ?_⟩
  refine iteD (fun z => ?_) (fun z => ?_)
  · have z1 : 1 < (h.prods xs).count (topI (h.prods xs)) := by have : (1 : Int) < (((h.prods xs).count (topI (h.prods xs)) : Nat) : Int) := z; omega
    rw [if_pos z1] at q1
    exact q1
  · have z1 : ¬ 1 < (h.prods xs).count (topI (h.prods xs)) := fun y => z (by show (1 : Int) < (((h.prods xs).count (topI (h.prods xs)) : Nat) : Int); omega)
    rw [if_neg z1] at q1
    exact ⟨_, rfl, .inl ⟨rfl, _, SqL.of hR⟩, _, rfl, r, _, _, rfl, rfl, hR, topI_mem hne, by omega, q1⟩
end
end Mw
namespace Mw
open PySem L2
section
variable {P : Program} {w : World} {K : PySem.W.Frag} {mg : Str -> Option Value} {base : Heap} {f : Addr} {fd : FuncData} {cls : Nat -> Addr} {ks : List Nat} {np ns nf tc hC tm wb : Addr} {C_Hand C_PlainHand C_MarginHand C_HalvingHand C_SidesHand X_MendError X_NoFraction X_NoPoint X_NoSide X_NoRow X_NoTable X_NoText X_NotParted X_OneSide X_TooMany X_WrongBook T_code T_tab : Addr}
theorem sc_SidesHand_mend : FnScope ["self", "point", "side", "products", "others", "rival", "held"] ["self", "point", "side"] (defScope (mem 30 4)) := ⟨rfl, rfl, rfl, by decide +kernel, rfl, by decide +kernel, by decide +kernel⟩
theorem ok_SidesHand_mend (F : Fun K "mend" "SidesHand.mend" (mem 30 4) f fd) (T : Txt BN mg) (hfd : fd.code = .ref tc) (HT : HTx K cls ks) (c_moved : Cal P w K mg base 2 "moved" ["weights", "point", "times"] (spMv K)) (m_side_products : MCal P w K mg base 4 (Kds cls [4]) "side_products" ["self", "point"] (spProdsS K cls ks)) (LM : LamM K mg base cls tc) : FnOk P w K mg base (CXE P w) 5 f fd ["self", "point", "side"] (fun vs H Q E => spMd K cls ks vs H Q E /\ ∀ a g us, vs = .ref a :: us -> GAt cls ks H a g -> g.kd = 4) := by
  refine F.okXC hfd sc_SidesHand_mend (fun vs H Q E h => ?_) (fun cdv hcdv A outer s H vs Q E hr h => ?_)
  · obtain ⟨⟨a, p, g, xs, s0, rfl, _⟩, _⟩ := h
    rfl
  obtain ⟨⟨a, p, g, xs, s0, rfl, hA, ho, he, hP, hx, hs, q⟩, hn⟩ := h
  refine ⟨_, (pss_cons (ps_set (i := 3) sc_SidesHand_mend.nd rfl (Or.inr rfl) (pe_methG (pv 0) m_side_products (hr.mono (by decide)) passG_out (pa_cons (pv 1) pa_nil)))
      (pss_cons (ps_comp (i := 4) sc_SidesHand_mend.nd rfl rfl (sc := defScope (mem 30 4)) (N := ["self", "point", "side", "products", "others", "rival", "held"]) (NB := ["number", "side"]) (fr := [none, some 2]) rfl (by decide +kernel) (pi_range1 rfl (T.nb "range" (by decide)) (pa_cons (pe_fld (pv 0) rfl) pa_nil)) (fun _ _ _ _ => (pg_name (i := 0) (show (["number", "side"] : List Str).Nodup by decide +kernel) rfl (Or.inl rfl))) (fun _ _ _ _ => .one (pt_cmpR op_ne (pv 0) (pv 1) (nomark _))) (fun _ _ _ _ => (pv 0)))
      (pss_cons (ps_set (i := 5) sc_SidesHand_mend.nd rfl (Or.inl rfl) (pe_maxLam (q := lamQ) (i := 3) LM.k ⟨⟨_, _, _, rfl⟩, fun _ _ _ _ _ _ _ => rfl, rfl, rfl, rfl, rfl, rfl, (by decide), (by decide), (by decide), (by decide)⟩ rfl hr hcdv rfl rfl rfl rfl rfl (Or.inr (Or.inl rfl)) rfl (T.nb "max" (by decide)) (by decide +kernel) (pa_cons (pv 4) pa_nil)))
      (pss_cons (ps_set (i := 6) sc_SidesHand_mend.nd rfl (Or.inl rfl) (pe_callTy (call_listK (K := K) rfl) rfl (T.nb "list" (by decide)) (by decide +kernel) (pa_cons (pe_fld (pv 0) rfl) pa_nil)))
      (pss_cons (ps_asg (pe_cal c_moved (hr.mono (by decide)) rfl (pa_cons (pe_ix (ix_listK (K := K) rfl) (pv 6) (pv 2) (fun _ _ => rfl)) (pa_cons (pv 1) (pa_cons pe_int pa_nil)))) (pg_sub (pv 6) (pv 2) set_list))
      (pss_cons (ps_asg (pe_cal c_moved (hr.mono (by decide)) rfl (pa_cons (pe_ix (ix_listK (K := K) rfl) (pv 6) (pv 5) (fun _ _ => rfl)) (pa_cons (pv 1) (pa_cons (pe_un un_neg pe_int) pa_nil)))) (pg_sub (pv 6) (pv 5) set_list))
      (pss_one (ps_fld (pv 0) (pe_callTy (call_tupleK (K := K) rfl) rfl (T.nb "tuple" (by decide)) (by decide +kernel) (pa_cons (pv 6) pa_nil)) rfl)))))))), ?_⟩
  have hk := hn a g _ rfl hA
  obtain ⟨dx, fs, t, e, F1, ht⟩ := hA.ex
  cases g with
  | p h => exact absurd hk (by have := hA.pk h rfl; show ¬ h.kd = 4; omega)
  | v h => exact absurd (show 3 = 4 from hk) (by decide)
  | s h =>
  have ho : h.Ok := ho
  have hx : h.PtOk xs := hx
  have he : h.err <= errTop + 1 := he
  have hs : 0 <= s0 /\ s0 < (h.sides : Int) := of_decide_eq_true hs
  obtain ⟨ts, ht1, ht2⟩ := ht
  have htl : ts.length = h.sides := by rw [<- ho.len]; exact Paired.length ht2
  have hpl : (h.prods xs).length = h.sides := by unfold Snd.prods; rw [List.length_map, ho.len]
  have hl := hx.len
  have hpos := ho.pos
  have hfew := ho.few
  have htwo := ho.two
  have hfive := ho.five
  obtain ⟨n, rfl⟩ := Int.eq_ofNat_of_zero_le hs.1
  have hns : n < h.sides := by have := hs.2; omega
  have hTs : TbL H (cls 5) := hA.ts h rfl
  refine ⟨_, rfl, a, _, dx, fs, rfl, e, ⟨4, by simp, rfl⟩, F1.no _ (by decide +kernel), _, rfl, ⟨_, _, e⟩, a, p, h, xs, rfl, hA, ho, he, hP, hx, fun r H1 s1 hr0 hR => ?_⟩
  refine ⟨_, rfl, a, _, dx, fs, _, rfl, s1 _ _ e, HT.cl _ hA.kin, HT.sides hA.kin, F1.sides h rfl, (h.sides : Int), rfl, by omega, by omega, fun D hD => ?_⟩
  refine comp_range (n := h.sides) (fun j ys H' => ys = (othI j (n : Int)).map V.int /\ Same H1 H' /\ H' D = some (.lst ys)) ⟨rfl, Same.new hD _, upd_same⟩
    (fun j ys H' hj ⟨e1, _, e3⟩ => ⟨e3, by rw [e1, List.length_map]; exact othI_len j n⟩) (Nat.le_of_lt (small1000 (by omega))) ?_ ?_
  · rintro j ys H2 hj ⟨rfl, s2, e3⟩
    have ej : (0 : Int) + (j : Int) = (j : Int) := by omega
    refine ⟨wk1 rfl, ?_⟩
    refine ⟨_, rfl, _, rfl, rfl, _, rfl, ?_⟩
    refine iteND (fun z => ?_) (fun z => ?_)
    · have z1 : ¬ ((j : Int) = (n : Int)) := fun y => z (by rw [ej, y])
      refine ⟨_, rfl, e3, ?_, s2.upd_old hD, upd_same⟩
      rw [othI_snoc, if_neg z1, List.map_append, ej]; rfl
    · have z1 : (j : Int) = (n : Int) := by have : V.int (0 + (j : Int)) = V.int (n : Int) := z; rw [ej] at this; injection this
      refine ⟨?_, s2, e3⟩
      rw [othI_snoc, if_pos z1, List.append_nil]
  rintro ys H2 ⟨rfl, s2, e3⟩
  have s12 := s1.trans s2
  have hR2 := s2 _ _ hR
  have hT2 : TbL H2 (cls 5) := hTs.map (fun _ _ z => s12 _ _ z) fun _ _ z => s12 _ _ z
  have hone := others_ne (n := h.sides) (s := n) htwo
  refine ⟨_, rfl, D, r, othI h.sides (n : Int), h.prods xs, rfl, SqL.of e3, ?_, rfl, SqL.of hR2, fun z hz => ?_, hT2, fun mx H3 hbest o3 hT3 => ?_⟩
  · unfold othI
    rw [List.length_map]; exact List.length_pos_iff.mpr hone
  · have := othI_mem hz
    rw [hpl]; exact ⟨this.1, this.2.1⟩
  rw [<- hpl] at hbest
  have emx := rival_best hbest
  subst emx
  have hrv := rivalS_lt (ps := h.prods xs) (s := (n : Int)) (by rw [hpl]; exact hone)
  rw [hpl] at hrv
  generalize hrvE : rivalS (h.prods xs) (n : Int) = rv at *
  obtain ⟨tps, hbt⟩ := hT2.tbl
  have k3 : ∀ {b o}, H2 b = some o -> (∀ ps, o ≠ .tbl ps) -> H3 b = some o := fun {b o} hb hno => o3 b o (fun z => by rw [z, hbt] at hb; cases hb; exact hno _ rfl) hb
  have e3' : H3 a = some (.ins (cls 4) dx fs) := k3 (s12 _ _ e) (by simp)
  have ht13 : H3 t = some (.tup (ts.map V.ref)) := k3 (s12 _ _ ht1) (by simp)
  have ht23 : TsAt H3 ts h.ws := Paired.mapP ht2 fun _ _ z => k3 (s12 _ _ z) (by simp)
  have hP3 : SqT K H3 p (xs.map V.int) := by
    rcases s12.seqT hP with (y | ⟨o, y⟩) | y
    · exact .inl (.inl (k3 y (by simp)))
    · exact .inl (.inr ⟨o, k3 y (by simp)⟩)
    · exact .inr y
  refine ⟨_, rfl, a, _, dx, fs, _, rfl, e3', HT.cl _ hA.kin, HT.held _ hA.kin, F1.held, t, _, rfl, .inr (SqT.of ht13), fun l hl0 => ?_⟩
  have s4 := Same.new hl0 (.lst (ts.map V.ref))
  have hL4 : upd H3 l (.lst (ts.map V.ref)) l = some (.lst (ts.map V.ref)) := upd_same
  have hlH : H l = none := by
    cases y : H l with
    | none => rfl
    | some o =>
      have y2 := s12 _ _ y
      by_cases z : l = cls 5
      · rw [z] at hl0
        obtain ⟨_, y3⟩ := hT3.tbl
        rw [y3] at hl0; cases hl0
      · rw [o3 l o z y2] at hl0; cases hl0
  have hP4 := s4.seqT hP3
  have ht24 := ht23.same s4
  have e4 := s4 _ _ e3'
  have hT4 : TbL (upd H3 l (.lst (ts.map V.ref))) (cls 5) := hT3.map (fun _ _ z => s4 _ _ z) fun _ _ z => s4 _ _ z
  have ha4 : ∀ b o, b ≠ cls 5 -> H b = some o -> upd H3 l (.lst (ts.map V.ref)) b = some o := fun b o hb y => s4 _ _ (o3 b o hb (s12 _ _ y))
  generalize upd H3 l (.lst (ts.map V.ref)) = H4 at *
  obtain ⟨tn, htn⟩ : ∃ tn, ts[n]? = some tn := ⟨_, List.getElem?_eq_getElem (by omega)⟩
  obtain ⟨wn, hwn, hwn2⟩ := paired_get ht24 htn
  have hne : xs ≠ [] := fun z => by rw [z] at hl; simp at hl; omega
  have hwl := ho.lens wn (List.mem_of_getElem? hwn)
  refine ⟨_, rfl, _, rfl, l, _, _, _, rfl, rfl, SqL.of hL4, atI_nat (j := n) (by rw [List.getElem?_map, htn]; rfl), _, rfl, tn, p, wn, xs, 1, rfl, SqT.of hwn2, hP4, hne, by omega, by omega, .inl rfl, hx.low, fun r5 H5 s5 hr50 hR5 => ?_⟩
  have hL5 := s5 _ _ hL4
  refine ⟨_, rfl, _, rfl, l, _, (n : Int), n, rfl, rfl, hL5, ?_, ?_⟩
  · rw [List.length_map, htl]; unfold ixN; rw [if_pos (by omega), if_pos (by omega), Int.toNat_natCast]
  have hr5l : r5 ≠ l := fun z => by rw [z, hL4] at hr50; cases hr50
  have eset : (ts.map V.ref).set n (V.ref r5) = (ts.set n r5).map V.ref := by rw [List.map_set]
  rw [eset]
  have hL6 : upd H5 l (.lst ((ts.set n r5).map V.ref)) l = some (.lst ((ts.set n r5).map V.ref)) := upd_same
  have kpt : ∀ b o, b ≠ l -> H5 b = some o -> upd H5 l (.lst ((ts.set n r5).map V.ref)) b = some o := fun b o hb y => by rw [upd_ne hb]; exact y
  have tl : ∀ b zs, H5 b = some (.tup zs) -> b ≠ l := fun b zs y z => by rw [z, hL5] at y; cases y
  have hT6 : TsAt (upd H5 l (.lst ((ts.set n r5).map V.ref))) (ts.set n r5) (h.ws.set n (mv 1 wn (xs ++ [1]))) := by
    refine paired_of_get (by rw [List.length_set, List.length_set, htl, ho.len]) fun j b w hb hw => ?_
    by_cases hj : j = n
    · subst hj
      rw [List.getElem?_set_self (by omega)] at hb
      rw [List.getElem?_set_self (by rw [ho.len]; omega)] at hw
      rw [<- Option.some.inj hb, <- Option.some.inj hw]
      exact kpt _ _ hr5l hR5
    · rw [List.getElem?_set_ne (fun z => hj z.symm)] at hb hw
      obtain ⟨w2, hw1, hw2⟩ := paired_get ht24 hb
      rw [hw] at hw1
      rw [Option.some.inj hw1]
      have y := s5 _ _ hw2
      exact kpt _ _ (tl _ _ y) y
  have hP6 : SqT K (upd H5 l (.lst ((ts.set n r5).map V.ref))) p (xs.map V.int) := by
    rcases s5.seqT hP4 with (y | ⟨o, y⟩) | y
    · exact .inl (.inl (kpt _ _ (tl _ _ y) y))
    · exact .inl (.inr ⟨o, kpt _ _ (fun z => by rw [z, hL5] at y; cases y) y⟩)
    · exact .inr y
  have e6 := kpt _ _ (fun z => by have := s5 _ _ e4; rw [z, hL5] at this; cases this) (s5 _ _ e4)
  have hTb6 : TbL (upd H5 l (.lst ((ts.set n r5).map V.ref))) (cls 5) := hT4.map (fun b ps y => kpt _ _ (fun z => by have := s5 _ _ y; rw [z, hL5] at this; cases this) (s5 _ _ y)) fun b φ y => kpt _ _ (fun z => by have := s5 _ _ y; rw [z, hL5] at this; cases this) (s5 _ _ y)
  have ha6 : ∀ b o, b ≠ cls 5 -> H b = some o -> upd H5 l (.lst ((ts.set n r5).map V.ref)) b = some o := fun b o hb y => kpt _ _ (fun z => by rw [z, hlH] at y; cases y) (s5 _ _ (ha4 b o hb y))
  generalize upd H5 l (.lst ((ts.set n r5).map V.ref)) = H6 at *
  obtain ⟨tv, htv⟩ : ∃ tv, (ts.set n r5)[rv]? = some tv := ⟨_, List.getElem?_eq_getElem (by rw [List.length_set]; omega)⟩
  obtain ⟨wv, hwv, hwv2⟩ := paired_get hT6 htv
  have hwvl : wv.length <= 1000 := by
    have hrn : rv ≠ n := fun z => hrv.2 (by rw [z])
    rw [List.getElem?_set_ne (fun z => hrn z.symm)] at hwv
    have := ho.lens wv (List.mem_of_getElem? hwv)
    omega
  refine ⟨_, rfl, _, rfl, l, _, _, _, rfl, rfl, SqL.of hL6, atI_nat (j := rv) (by rw [List.getElem?_map, htv]; rfl), _, rfl, _, rfl, tv, p, wv, xs, -1, rfl, SqT.of hwv2, hP6, hne, by omega, hwvl, .inr rfl, hx.low, fun r7 H7 s7 hr70 hR7 => ?_⟩
  have hL7 := s7 _ _ hL6
  refine ⟨_, rfl, _, rfl, l, _, (rv : Int), rv, rfl, rfl, hL7, ?_, ?_⟩
  · rw [List.length_map, List.length_set, htl]; unfold ixN; rw [if_pos (by omega), if_pos (by omega), Int.toNat_natCast]
  have hr7l : r7 ≠ l := fun z => by rw [z, hL6] at hr70; cases hr70
  have eset2 : ((ts.set n r5).map V.ref).set rv (V.ref r7) = ((ts.set n r5).set rv r7).map V.ref := List.map_set.symm
  rw [eset2]
  have hL8 : upd H7 l (.lst (((ts.set n r5).set rv r7).map V.ref)) l = some (.lst (((ts.set n r5).set rv r7).map V.ref)) := upd_same
  have kpt8 : ∀ b o, b ≠ l -> H7 b = some o -> upd H7 l (.lst (((ts.set n r5).set rv r7).map V.ref)) b = some o := fun b o hb y => by rw [upd_ne hb]; exact y
  have tl8 : ∀ b zs, H7 b = some (.tup zs) -> b ≠ l := fun b zs y z => by rw [z, hL7] at y; cases y
  have hT8 : TsAt (upd H7 l (.lst (((ts.set n r5).set rv r7).map V.ref))) ((ts.set n r5).set rv r7) ((h.ws.set n (mv 1 wn (xs ++ [1]))).set rv (mv (-1) wv (xs ++ [1]))) := by
    refine paired_of_get (by rw [List.length_set, List.length_set, List.length_set, List.length_set, htl, ho.len]) fun j b w hb hw => ?_
    by_cases hj : j = rv
    · subst hj
      rw [List.getElem?_set_self (by rw [List.length_set]; omega)] at hb
      rw [List.getElem?_set_self (by rw [List.length_set, ho.len]; omega)] at hw
      rw [<- Option.some.inj hb, <- Option.some.inj hw]
      exact kpt8 _ _ hr7l hR7
    · rw [List.getElem?_set_ne (fun z => hj z.symm)] at hb hw
      obtain ⟨w2, hw1, hw2⟩ := paired_get hT6 hb
      rw [hw] at hw1
      rw [Option.some.inj hw1]
      have y := s7 _ _ hw2
      exact kpt8 _ _ (tl8 _ _ y) y
  have e8 : upd H7 l (.lst (((ts.set n r5).set rv r7).map V.ref)) a = some (.ins (cls 4) dx fs) := kpt8 _ _ (fun z => by have := s7 _ _ e6; rw [z, hL7] at this; cases this) (s7 _ _ e6)
  have hTb8 : TbL (upd H7 l (.lst (((ts.set n r5).set rv r7).map V.ref))) (cls 5) := hTb6.map (fun b ps y => kpt8 _ _ (fun z => by have := s7 _ _ y; rw [z, hL7] at this; cases this) (s7 _ _ y)) fun b φ y => kpt8 _ _ (fun z => by have := s7 _ _ y; rw [z, hL7] at this; cases this) (s7 _ _ y)
  have ha8 : ∀ b o, b ≠ cls 5 -> H b = some o -> upd H7 l (.lst (((ts.set n r5).set rv r7).map V.ref)) b = some o := fun b o hb y => kpt8 _ _ (fun z => by rw [z, hlH] at y; cases y) (s7 _ _ (ha6 b o hb y))
  generalize upd H7 l (.lst (((ts.set n r5).set rv r7).map V.ref)) = H8 at *
  refine ⟨_, rfl, l, _, rfl, .inl ⟨SqL.of hL8, fun t9 ht9 => ?_⟩⟩
  have s9 := Same.new ht9 (.tup (((ts.set n r5).set rv r7).map V.ref))
  have e9 := s9 _ _ e8
  refine ⟨_, rfl, a, _, dx, fs, rfl, e9, HT.cl _ hA.kin, HT.held _ hA.kin, by have := F1.few; omega, ?_⟩
  have hTb9 : TbL (upd H8 t9 (.tup (((ts.set n r5).set rv r7).map V.ref))) (cls 5) := hTb8.map (fun _ _ z => s9 _ _ z) fun _ _ z => s9 _ _ z
  have emend : Snd.mend h.ws (h.prods xs) xs n = (h.ws.set n (mv 1 wn (xs ++ [1]))).set rv (mv (-1) wv (xs ++ [1])) := by
    unfold Snd.mend
    have g1 : h.ws.getD n [] = wn := by rw [List.getD_eq_getElem?_getD, hwn]; rfl
    have g2 : (h.ws.set n (mv 1 wn (xs ++ [1]))).getD rv [] = wv := by rw [List.getD_eq_getElem?_getD, hwv]; rfl
    show (h.ws.set n (mv 1 (h.ws.getD n []) (xs ++ [1]))).set (rivalS (h.prods xs) (n : Int)) (mv (-1) ((h.ws.set n (mv 1 (h.ws.getD n []) (xs ++ [1]))).getD (rivalS (h.prods xs) (n : Int)) []) (xs ++ [1])) = _
    rw [hrvE, g1, g2]
  have hKp : Kp [a] H (upd (upd H8 t9 (.tup (((ts.set n r5).set rv r7).map V.ref))) a (.ins (cls 4) dx (putF "held" (.ref t9) fs))) := by
    obtain ⟨tp0, htb0⟩ := hTs.tbl
    have all : ∀ b o, b ≠ cls 5 -> b ≠ a -> H b = some o -> upd (upd H8 t9 (.tup (((ts.set n r5).set rv r7).map V.ref))) a (.ins (cls 4) dx (putF "held" (.ref t9) fs)) b = some o := fun b o h1 h2 y => by rw [upd_ne h2]; exact s9 _ _ (ha8 b o h1 y)
    refine ⟨fun b o y nt => ?_, fun b o nb y nt => ?_, fun b y => ?_, fun b y => ?_⟩
    · refine all b o (fun z => ?_) (fun z => ?_) y
      · rw [z, htb0] at y; cases y; exact nt
      · rw [z, e] at y; cases y; exact nt
    · refine all b o (fun z => ?_) (fun z => nb (by rw [z]; simp)) y
      rw [z, htb0] at y; cases y; exact nt
    · by_cases z : b = a
      · rw [z, upd_same]; simp
      · rw [upd_ne z]
        by_cases z2 : b = cls 5
        · obtain ⟨ps, y3⟩ := hTb9.tbl
          rw [z2, y3]; simp
        · cases y4 : H b with
          | none => exact absurd y4 y
          | some o => rw [s9 _ _ (ha8 b o z2 y4)]; simp
    · by_cases z2 : b = cls 5
      · rw [z2]
        refine hTb9.map (fun d ps y2 => ?_) fun d φ y2 => ?_
        · rw [upd_ne (fun w => by rw [w, e9] at y2; cases y2)]; exact y2
        · rw [upd_ne (fun w => by rw [w, e9] at y2; cases y2)]; exact y2
      · refine y.elim (fun y => .inl ?_) (fun ⟨c', y1, y2⟩ => .inr ⟨c', ?_, ?_⟩)
        · exact all b _ z2 (fun z => by rw [z, e] at y; cases y) y
        · exact all b _ z2 (fun z => by rw [z, e] at y1; cases y1) y1
        · exact all c' _ (fun z => by rw [z, htb0] at y2; cases y2) (fun z => by rw [z, e] at y2; cases y2) y2
  refine q _ hKp (hA.held_set (g := .s h) e9 F1 xs (n : Int) ?_ fun h' _ => hTb9)
  show ∃ ts : List Addr, _ /\ TsAt _ ts (Snd.mend h.ws (h.prods xs) xs (n : Int).toNat)
  rw [Int.toNat_natCast, emend]
  exact ⟨_, upd_same, hT8.same s9⟩
end
end Mw
namespace Mw
open PySem L2
theorem hands {P : Program} {w : World} {K : PySem.W.Frag} {mg : Str -> Option Value} {base : Heap} {C_Hand C_PlainHand C_MarginHand C_HalvingHand C_SidesHand X_MendError X_NoFraction X_NoPoint X_NoSide X_NoRow X_NoTable X_NoText X_NotParted X_OneSide X_TooMany X_WrongBook T_code T_tab : Addr} (PR : Prog K mg C_Hand C_PlainHand C_MarginHand C_HalvingHand C_SidesHand X_MendError X_NoFraction X_NoPoint X_NoSide X_NoRow X_NoTable X_NoText X_NotParted X_OneSide X_TooMany X_WrongBook T_code T_tab) (T : Txt BN mg) (BM : BmOk mg base) (c_told_by : Cal P w K mg base 2 "told_by" ["weights", "point"] (spTold K)) (c_turned : Cal P w K mg base 1 "turned" ["number", "side"] spTurned) (c_moved : Cal P w K mg base 2 "moved" ["weights", "point", "times"] (spMv K)) (c_by : CalX P w K mg base 3 "by" ["one", "other"] (spFrac K nf topMul botMul)) :
    MCal P w K mg base 20 (Kds (clsK C_Hand C_PlainHand C_MarginHand C_HalvingHand C_SidesHand T_tab) [0, 1, 2, 3, 4]) "put" ["self", "point", "side"] (spPutG K (clsK C_Hand C_PlainHand C_MarginHand C_HalvingHand C_SidesHand T_tab) [0, 1, 2, 3, 4] X_NoPoint X_NoSide)
    /\ MCal P w K mg base 20 (Kds (clsK C_Hand C_PlainHand C_MarginHand C_HalvingHand C_SidesHand T_tab) [0, 1, 2, 3, 4]) "weights" ["self"] (spWtsG (clsK C_Hand C_PlainHand C_MarginHand C_HalvingHand C_SidesHand T_tab) [0, 1, 2, 3, 4])
    /\ MCal P w K mg base 20 (Kds (clsK C_Hand C_PlainHand C_MarginHand C_HalvingHand C_SidesHand T_tab) [0, 1, 2, 3, 4]) "mistakes" ["self"] (spErrG (clsK C_Hand C_PlainHand C_MarginHand C_HalvingHand C_SidesHand T_tab) [0, 1, 2, 3, 4])
    /\ MCal P w K mg base 7 (Kds (clsK C_Hand C_PlainHand C_MarginHand C_HalvingHand C_SidesHand T_tab) [0, 1, 2, 3, 4]) "would_err" ["self", "point", "side"] (spWould K (clsK C_Hand C_PlainHand C_MarginHand C_HalvingHand C_SidesHand T_tab) [0, 1, 2, 3, 4] X_NoPoint X_NoSide)
    /\ HTx K (clsK C_Hand C_PlainHand C_MarginHand C_HalvingHand C_SidesHand T_tab) [0, 1, 2, 3, 4]
    /\ NCal P w K mg base 20 "Hand" ["self", "many"] (spNew (hI (clsK C_Hand C_PlainHand C_MarginHand C_HalvingHand C_SidesHand T_tab) [0, 1, 2, 3, 4]) 0)
    /\ NCal P w K mg base 20 "PlainHand" ["self", "many"] (spNew (hI (clsK C_Hand C_PlainHand C_MarginHand C_HalvingHand C_SidesHand T_tab) [0, 1, 2, 3, 4]) 1)
    /\ NCal P w K mg base 20 "MarginHand" ["self", "many", "margin"] (spNew (hI (clsK C_Hand C_PlainHand C_MarginHand C_HalvingHand C_SidesHand T_tab) [0, 1, 2, 3, 4]) 2)
    /\ NCal P w K mg base 20 "HalvingHand" ["self", "many"] (spNewV (gI Gnd.v (clsK C_Hand C_PlainHand C_MarginHand C_HalvingHand C_SidesHand T_tab) [0, 1, 2, 3, 4]))
    /\ NCal P w K mg base 20 "SidesHand" ["self", "many", "sides"] (spNewS (gI Gnd.s (clsK C_Hand C_PlainHand C_MarginHand C_HalvingHand C_SidesHand T_tab) [0, 1, 2, 3, 4])) := by
  have HT : HTx K (clsK C_Hand C_PlainHand C_MarginHand C_HalvingHand C_SidesHand T_tab) [0, 1, 2, 3, 4] := by
    refine ⟨fun k hk => ?_, fun k hk => ?_, fun k hk => ?_, fun k hk => ?_, fun h => ?_, fun h => ?_, fun k hk l hl e => ?_⟩
    · rcases (show k = 0 \/ k = 1 \/ k = 2 \/ k = 3 \/ k = 4 from by simpa using hk) with rfl | rfl | rfl | rfl | rfl
      · exact PR.c_Hand.cl
      · exact PR.c_PlainHand.cl
      · exact PR.c_MarginHand.cl
      · exact PR.c_HalvingHand.cl
      · exact PR.c_SidesHand.cl
    · rcases (show k = 0 \/ k = 1 \/ k = 2 \/ k = 3 \/ k = 4 from by simpa using hk) with rfl | rfl | rfl | rfl | rfl
      · exact PR.n_Hand_many
      · exact PR.n_PlainHand_many
      · exact PR.n_MarginHand_many
      · exact PR.n_HalvingHand_many
      · exact PR.n_SidesHand_many
    · rcases (show k = 0 \/ k = 1 \/ k = 2 \/ k = 3 \/ k = 4 from by simpa using hk) with rfl | rfl | rfl | rfl | rfl
      · exact PR.n_Hand_held
      · exact PR.n_PlainHand_held
      · exact PR.n_MarginHand_held
      · exact PR.n_HalvingHand_held
      · exact PR.n_SidesHand_held
    · rcases (show k = 0 \/ k = 1 \/ k = 2 \/ k = 3 \/ k = 4 from by simpa using hk) with rfl | rfl | rfl | rfl | rfl
      · exact PR.n_Hand_made
      · exact PR.n_PlainHand_made
      · exact PR.n_MarginHand_made
      · exact PR.n_HalvingHand_made
      · exact PR.n_SidesHand_made
    · exact PR.n_MarginHand_margin
    · exact PR.n_SidesHand_sides
    · rcases (show k = 0 \/ k = 1 \/ k = 2 \/ k = 3 \/ k = 4 from by simpa using hk) with rfl | rfl | rfl | rfl | rfl
      · rcases (show l = 0 \/ l = 1 \/ l = 2 \/ l = 3 \/ l = 4 from by simpa using hl) with rfl | rfl | rfl | rfl | rfl
        · rfl
        · exact absurd e PR.d_Hand_PlainHand
        · exact absurd e PR.d_Hand_MarginHand
        · exact absurd e PR.d_Hand_HalvingHand
        · exact absurd e PR.d_Hand_SidesHand
      · rcases (show l = 0 \/ l = 1 \/ l = 2 \/ l = 3 \/ l = 4 from by simpa using hl) with rfl | rfl | rfl | rfl | rfl
        · exact absurd e.symm PR.d_Hand_PlainHand
        · rfl
        · exact absurd e PR.d_PlainHand_MarginHand
        · exact absurd e PR.d_PlainHand_HalvingHand
        · exact absurd e PR.d_PlainHand_SidesHand
      · rcases (show l = 0 \/ l = 1 \/ l = 2 \/ l = 3 \/ l = 4 from by simpa using hl) with rfl | rfl | rfl | rfl | rfl
        · exact absurd e.symm PR.d_Hand_MarginHand
        · exact absurd e.symm PR.d_PlainHand_MarginHand
        · rfl
        · exact absurd e PR.d_MarginHand_HalvingHand
        · exact absurd e PR.d_MarginHand_SidesHand
      · rcases (show l = 0 \/ l = 1 \/ l = 2 \/ l = 3 \/ l = 4 from by simpa using hl) with rfl | rfl | rfl | rfl | rfl
        · exact absurd e.symm PR.d_Hand_HalvingHand
        · exact absurd e.symm PR.d_PlainHand_HalvingHand
        · exact absurd e.symm PR.d_MarginHand_HalvingHand
        · rfl
        · exact absurd e PR.d_HalvingHand_SidesHand
      · rcases (show l = 0 \/ l = 1 \/ l = 2 \/ l = 3 \/ l = 4 from by simpa using hl) with rfl | rfl | rfl | rfl | rfl
        · exact absurd e.symm PR.d_Hand_SidesHand
        · exact absurd e.symm PR.d_PlainHand_SidesHand
        · exact absurd e.symm PR.d_MarginHand_SidesHand
        · exact absurd e.symm PR.d_HalvingHand_SidesHand
        · rfl
  have m_look_at : MCal P w K mg base 2 (Kds (clsK C_Hand C_PlainHand C_MarginHand C_HalvingHand C_SidesHand T_tab) [0, 1, 2, 3, 4]) "look_at" ["self", "point"] (spLook K (clsK C_Hand C_PlainHand C_MarginHand C_HalvingHand C_SidesHand T_tab) [0, 1, 2, 3, 4] X_NoPoint) := ⟨fun C h => by
    obtain ⟨k, hk, rfl⟩ := (show Kds (clsK C_Hand C_PlainHand C_MarginHand C_HalvingHand C_SidesHand T_tab) [0, 1, 2, 3, 4] C from h)
    rcases (show k = 0 \/ k = 1 \/ k = 2 \/ k = 3 \/ k = 4 from by simpa using hk) with rfl | rfl | rfl | rfl | rfl
    · exact PR.m_Hand_look_at.use PR.c_Hand.cl (fun _ _ _ _ _ _ => L2.len2 fun _ _ => rfl) fun f fd F => ((ok_Hand_look_at F T HT PR.x_NoPoint).mono (by decide)).imp (fun _ _ _ _ h => h.2)
    · exact PR.m_PlainHand_look_at.use PR.c_PlainHand.cl (fun _ _ _ _ _ _ => L2.len2 fun _ _ => rfl) fun f fd F => ((ok_Hand_look_at F T HT PR.x_NoPoint).mono (by decide)).imp (fun _ _ _ _ h => h.2)
    · exact PR.m_MarginHand_look_at.use PR.c_MarginHand.cl (fun _ _ _ _ _ _ => L2.len2 fun _ _ => rfl) fun f fd F => ((ok_Hand_look_at F T HT PR.x_NoPoint).mono (by decide)).imp (fun _ _ _ _ h => h.2)
    · exact PR.m_HalvingHand_look_at.use PR.c_HalvingHand.cl (fun _ _ _ _ _ _ => L2.len2 fun _ _ => rfl) fun f fd F => ((ok_Hand_look_at F T HT PR.x_NoPoint).mono (by decide)).imp (fun _ _ _ _ h => h.2)
    · exact PR.m_SidesHand_look_at.use PR.c_SidesHand.cl (fun _ _ _ _ _ _ => L2.len2 fun _ _ => rfl) fun f fd F => ((ok_Hand_look_at F T HT PR.x_NoPoint).mono (by decide)).imp (fun _ _ _ _ h => h.2)⟩
  have m_has_side : MCal P w K mg base 2 (Kds (clsK C_Hand C_PlainHand C_MarginHand C_HalvingHand C_SidesHand T_tab) [0, 1, 2, 3, 4]) "has_side" ["self", "side"] (spHas (clsK C_Hand C_PlainHand C_MarginHand C_HalvingHand C_SidesHand T_tab) [0, 1, 2, 3, 4]) := ⟨fun C h => by
    obtain ⟨k, hk, rfl⟩ := (show Kds (clsK C_Hand C_PlainHand C_MarginHand C_HalvingHand C_SidesHand T_tab) [0, 1, 2, 3, 4] C from h)
    rcases (show k = 0 \/ k = 1 \/ k = 2 \/ k = 3 \/ k = 4 from by simpa using hk) with rfl | rfl | rfl | rfl | rfl
    · exact PR.m_Hand_has_side.use PR.c_Hand.cl (fun _ _ _ _ _ _ => L2.len2 fun _ _ => rfl) fun f fd F => ((ok_Hand_has_side F T ).mono (by decide)).imp (fun vs H Q E h => ⟨h.2, fun a g us e q => by have z := kd_of HT (k := 0) (by decide) h.1 a g us e q; omega⟩)
    · exact PR.m_PlainHand_has_side.use PR.c_PlainHand.cl (fun _ _ _ _ _ _ => L2.len2 fun _ _ => rfl) fun f fd F => ((ok_Hand_has_side F T ).mono (by decide)).imp (fun vs H Q E h => ⟨h.2, fun a g us e q => by have z := kd_of HT (k := 1) (by decide) h.1 a g us e q; omega⟩)
    · exact PR.m_MarginHand_has_side.use PR.c_MarginHand.cl (fun _ _ _ _ _ _ => L2.len2 fun _ _ => rfl) fun f fd F => ((ok_Hand_has_side F T ).mono (by decide)).imp (fun vs H Q E h => ⟨h.2, fun a g us e q => by have z := kd_of HT (k := 2) (by decide) h.1 a g us e q; omega⟩)
    · exact PR.m_HalvingHand_has_side.use PR.c_HalvingHand.cl (fun _ _ _ _ _ _ => L2.len2 fun _ _ => rfl) fun f fd F => ((ok_Hand_has_side F T ).mono (by decide)).imp (fun vs H Q E h => ⟨h.2, fun a g us e q => by have z := kd_of HT (k := 3) (by decide) h.1 a g us e q; omega⟩)
    · exact PR.m_SidesHand_has_side.use PR.c_SidesHand.cl (fun _ _ _ _ _ _ => L2.len2 fun _ _ => rfl) fun f fd F => ((ok_SidesHand_has_side F T HT).mono (by decide)).imp (fun vs H Q E h => ⟨h.2, fun a g us e q => by have z := kd_of HT (k := 4) (by decide) h.1 a g us e q; omega⟩)⟩
  have m_side_products : MCal P w K mg base 4 (Kds (clsK C_Hand C_PlainHand C_MarginHand C_HalvingHand C_SidesHand T_tab) [4]) "side_products" ["self", "point"] (spProdsS K (clsK C_Hand C_PlainHand C_MarginHand C_HalvingHand C_SidesHand T_tab) [0, 1, 2, 3, 4]) := ⟨fun C h => by
    obtain ⟨k, hk, rfl⟩ := (show Kds (clsK C_Hand C_PlainHand C_MarginHand C_HalvingHand C_SidesHand T_tab) [4] C from h)
    obtain rfl : k = 4 := by simpa using hk
    exact PR.m_SidesHand_side_products.use PR.c_SidesHand.cl (fun _ _ _ _ _ _ => L2.len2 fun _ _ => rfl) fun f fd F => ((ok_SidesHand_side_products F T HT c_told_by).mono (by decide)).imp (fun _ _ _ _ h => h.2)⟩
  have m_side_of : MCal P w K mg base 5 (Kds (clsK C_Hand C_PlainHand C_MarginHand C_HalvingHand C_SidesHand T_tab) [0, 1, 2, 3, 4]) "side_of" ["self", "point"] (spSide K (clsK C_Hand C_PlainHand C_MarginHand C_HalvingHand C_SidesHand T_tab) [0, 1, 2, 3, 4]) := ⟨fun C h => by
    obtain ⟨k, hk, rfl⟩ := (show Kds (clsK C_Hand C_PlainHand C_MarginHand C_HalvingHand C_SidesHand T_tab) [0, 1, 2, 3, 4] C from h)
    rcases (show k = 0 \/ k = 1 \/ k = 2 \/ k = 3 \/ k = 4 from by simpa using hk) with rfl | rfl | rfl | rfl | rfl
    · exact PR.m_Hand_side_of.use PR.c_Hand.cl (fun _ _ _ _ _ _ => L2.len2 fun _ _ => rfl) fun f fd F => ((ok_Hand_side_of F T HT c_told_by).mono (by decide)).imp (fun vs H Q E h => ⟨h.2, fun a g us e q => by have z := kd_of HT (k := 0) (by decide) h.1 a g us e q; omega⟩)
    · exact PR.m_PlainHand_side_of.use PR.c_PlainHand.cl (fun _ _ _ _ _ _ => L2.len2 fun _ _ => rfl) fun f fd F => ((ok_Hand_side_of F T HT c_told_by).mono (by decide)).imp (fun vs H Q E h => ⟨h.2, fun a g us e q => by have z := kd_of HT (k := 1) (by decide) h.1 a g us e q; omega⟩)
    · exact PR.m_MarginHand_side_of.use PR.c_MarginHand.cl (fun _ _ _ _ _ _ => L2.len2 fun _ _ => rfl) fun f fd F => ((ok_Hand_side_of F T HT c_told_by).mono (by decide)).imp (fun vs H Q E h => ⟨h.2, fun a g us e q => by have z := kd_of HT (k := 2) (by decide) h.1 a g us e q; omega⟩)
    · exact PR.m_HalvingHand_side_of.use PR.c_HalvingHand.cl (fun _ _ _ _ _ _ => L2.len2 fun _ _ => rfl) fun f fd F => ((ok_HalvingHand_side_of F T HT).mono (by decide)).imp (fun vs H Q E h => ⟨h.2, fun a g us e q => by have z := kd_of HT (k := 3) (by decide) h.1 a g us e q; omega⟩)
    · exact PR.m_SidesHand_side_of.use PR.c_SidesHand.cl (fun _ _ _ _ _ _ => L2.len2 fun _ _ => rfl) fun f fd F => ((ok_SidesHand_side_of F T HT m_side_products).mono (by decide)).imp (fun vs H Q E h => ⟨h.2, fun a g us e q => by have z := kd_of HT (k := 4) (by decide) h.1 a g us e q; omega⟩)⟩
  have m_is_mistake : MCal P w K mg base 6 (Kds (clsK C_Hand C_PlainHand C_MarginHand C_HalvingHand C_SidesHand T_tab) [0, 1, 2, 3, 4]) "is_mistake" ["self", "point", "side"] (spIM K (clsK C_Hand C_PlainHand C_MarginHand C_HalvingHand C_SidesHand T_tab) [0, 1, 2, 3, 4]) := ⟨fun C h => by
    obtain ⟨k, hk, rfl⟩ := (show Kds (clsK C_Hand C_PlainHand C_MarginHand C_HalvingHand C_SidesHand T_tab) [0, 1, 2, 3, 4] C from h)
    rcases (show k = 0 \/ k = 1 \/ k = 2 \/ k = 3 \/ k = 4 from by simpa using hk) with rfl | rfl | rfl | rfl | rfl
    · exact PR.m_Hand_is_mistake.use PR.c_Hand.cl (fun _ _ _ _ _ _ => L2.len3 fun _ _ _ => rfl) fun f fd F => ((ok_Hand_is_mistake F T m_side_of).mono (by decide)).imp (fun vs H Q E h => ⟨h.2, fun a g us e q => by have z := kd_of HT (k := 0) (by decide) h.1 a g us e q; omega⟩)
    · exact PR.m_PlainHand_is_mistake.use PR.c_PlainHand.cl (fun _ _ _ _ _ _ => L2.len3 fun _ _ _ => rfl) fun f fd F => ((ok_Hand_is_mistake F T m_side_of).mono (by decide)).imp (fun vs H Q E h => ⟨h.2, fun a g us e q => by have z := kd_of HT (k := 1) (by decide) h.1 a g us e q; omega⟩)
    · exact PR.m_MarginHand_is_mistake.use PR.c_MarginHand.cl (fun _ _ _ _ _ _ => L2.len3 fun _ _ _ => rfl) fun f fd F => ((ok_MarginHand_is_mistake F T HT c_told_by c_turned).mono (by decide)).imp (fun vs H Q E h => ⟨h.2, fun a g us e q => by have z := kd_of HT (k := 2) (by decide) h.1 a g us e q; omega⟩)
    · exact PR.m_HalvingHand_is_mistake.use PR.c_HalvingHand.cl (fun _ _ _ _ _ _ => L2.len3 fun _ _ _ => rfl) fun f fd F => ((ok_Hand_is_mistake F T m_side_of).mono (by decide)).imp (fun vs H Q E h => ⟨h.2, fun a g us e q => by have z := kd_of HT (k := 3) (by decide) h.1 a g us e q; omega⟩)
    · exact PR.m_SidesHand_is_mistake.use PR.c_SidesHand.cl (fun _ _ _ _ _ _ => L2.len3 fun _ _ _ => rfl) fun f fd F => ((ok_Hand_is_mistake F T m_side_of).mono (by decide)).imp (fun vs H Q E h => ⟨h.2, fun a g us e q => by have z := kd_of HT (k := 4) (by decide) h.1 a g us e q; omega⟩)⟩
  have m_mend : MCal P w K mg base 5 (Kds (clsK C_Hand C_PlainHand C_MarginHand C_HalvingHand C_SidesHand T_tab) [0, 1, 2, 3, 4]) "mend" ["self", "point", "side"] (spMd K (clsK C_Hand C_PlainHand C_MarginHand C_HalvingHand C_SidesHand T_tab) [0, 1, 2, 3, 4]) := ⟨fun C h => by
    obtain ⟨k, hk, rfl⟩ := (show Kds (clsK C_Hand C_PlainHand C_MarginHand C_HalvingHand C_SidesHand T_tab) [0, 1, 2, 3, 4] C from h)
    rcases (show k = 0 \/ k = 1 \/ k = 2 \/ k = 3 \/ k = 4 from by simpa using hk) with rfl | rfl | rfl | rfl | rfl
    · exact PR.m_Hand_mend.use PR.c_Hand.cl (fun _ _ _ _ _ _ => L2.len3 fun _ _ _ => rfl) fun f fd F => ((ok_Hand_mend F T ).mono (by decide)).imp (fun vs H Q E h => ⟨h.2, fun a g us e q => by have z := kd_of HT (k := 0) (by decide) h.1 a g us e q; omega⟩)
    · exact PR.m_PlainHand_mend.use PR.c_PlainHand.cl (fun _ _ _ _ _ _ => L2.len3 fun _ _ _ => rfl) fun f fd F => ((ok_PlainHand_mend F T HT c_moved c_turned).mono (by decide)).imp (fun vs H Q E h => ⟨h.2, fun a g us e q => by have z := kd_of HT (k := 1) (by decide) h.1 a g us e q; omega⟩)
    · exact PR.m_MarginHand_mend.use PR.c_MarginHand.cl (fun _ _ _ _ _ _ => L2.len3 fun _ _ _ => rfl) fun f fd F => ((ok_PlainHand_mend F T HT c_moved c_turned).mono (by decide)).imp (fun vs H Q E h => ⟨h.2, fun a g us e q => by have z := kd_of HT (k := 2) (by decide) h.1 a g us e q; omega⟩)
    · exact PR.m_HalvingHand_mend.use PR.c_HalvingHand.cl (fun _ _ _ _ _ _ => L2.len3 fun _ _ _ => rfl) fun f fd F => ((ok_HalvingHand_mend F T HT c_by).mono (by decide)).imp (fun vs H Q E h => ⟨h.2, fun a g us e q => by have z := kd_of HT (k := 3) (by decide) h.1 a g us e q; omega⟩)
    · exact PR.m_SidesHand_mend.use PR.c_SidesHand.cl (fun _ _ _ _ _ _ => L2.len3 fun _ _ _ => rfl) fun f fd F hfd => ((ok_SidesHand_mend F T hfd HT c_moved m_side_products ⟨PR.m_SidesHand_mend.hd, BM⟩).mono (by decide)).imp (fun vs H Q E h => ⟨h.2, fun a g us e q => by have z := kd_of HT (k := 4) (by decide) h.1 a g us e q; omega⟩)⟩
  have m_would_err : MCal P w K mg base 7 (Kds (clsK C_Hand C_PlainHand C_MarginHand C_HalvingHand C_SidesHand T_tab) [0, 1, 2, 3, 4]) "would_err" ["self", "point", "side"] (spWould K (clsK C_Hand C_PlainHand C_MarginHand C_HalvingHand C_SidesHand T_tab) [0, 1, 2, 3, 4] X_NoPoint X_NoSide) := ⟨fun C h => by
    obtain ⟨k, hk, rfl⟩ := (show Kds (clsK C_Hand C_PlainHand C_MarginHand C_HalvingHand C_SidesHand T_tab) [0, 1, 2, 3, 4] C from h)
    rcases (show k = 0 \/ k = 1 \/ k = 2 \/ k = 3 \/ k = 4 from by simpa using hk) with rfl | rfl | rfl | rfl | rfl
    · exact PR.m_Hand_would_err.use PR.c_Hand.cl (fun _ _ _ _ _ _ => L2.len3 fun _ _ _ => rfl) fun f fd F => ((ok_Hand_would_err F T PR.x_NoSide m_look_at m_has_side m_is_mistake).mono (by decide)).imp (fun _ _ _ _ h => h.2)
    · exact PR.m_PlainHand_would_err.use PR.c_PlainHand.cl (fun _ _ _ _ _ _ => L2.len3 fun _ _ _ => rfl) fun f fd F => ((ok_Hand_would_err F T PR.x_NoSide m_look_at m_has_side m_is_mistake).mono (by decide)).imp (fun _ _ _ _ h => h.2)
    · exact PR.m_MarginHand_would_err.use PR.c_MarginHand.cl (fun _ _ _ _ _ _ => L2.len3 fun _ _ _ => rfl) fun f fd F => ((ok_Hand_would_err F T PR.x_NoSide m_look_at m_has_side m_is_mistake).mono (by decide)).imp (fun _ _ _ _ h => h.2)
    · exact PR.m_HalvingHand_would_err.use PR.c_HalvingHand.cl (fun _ _ _ _ _ _ => L2.len3 fun _ _ _ => rfl) fun f fd F => ((ok_Hand_would_err F T PR.x_NoSide m_look_at m_has_side m_is_mistake).mono (by decide)).imp (fun _ _ _ _ h => h.2)
    · exact PR.m_SidesHand_would_err.use PR.c_SidesHand.cl (fun _ _ _ _ _ _ => L2.len3 fun _ _ _ => rfl) fun f fd F => ((ok_Hand_would_err F T PR.x_NoSide m_look_at m_has_side m_is_mistake).mono (by decide)).imp (fun _ _ _ _ h => h.2)⟩
  have m_put : MCal P w K mg base 20 (Kds (clsK C_Hand C_PlainHand C_MarginHand C_HalvingHand C_SidesHand T_tab) [0, 1, 2, 3, 4]) "put" ["self", "point", "side"] (spPutG K (clsK C_Hand C_PlainHand C_MarginHand C_HalvingHand C_SidesHand T_tab) [0, 1, 2, 3, 4] X_NoPoint X_NoSide) := ⟨fun C h => by
    obtain ⟨k, hk, rfl⟩ := (show Kds (clsK C_Hand C_PlainHand C_MarginHand C_HalvingHand C_SidesHand T_tab) [0, 1, 2, 3, 4] C from h)
    rcases (show k = 0 \/ k = 1 \/ k = 2 \/ k = 3 \/ k = 4 from by simpa using hk) with rfl | rfl | rfl | rfl | rfl
    · exact PR.m_Hand_put.use PR.c_Hand.cl (fun _ _ _ _ _ _ => L2.len3 fun _ _ _ => rfl) fun f fd F => ((ok_Hand_put F T HT m_would_err m_mend).mono (by decide)).imp (fun _ _ _ _ h => h.2)
    · exact PR.m_PlainHand_put.use PR.c_PlainHand.cl (fun _ _ _ _ _ _ => L2.len3 fun _ _ _ => rfl) fun f fd F => ((ok_Hand_put F T HT m_would_err m_mend).mono (by decide)).imp (fun _ _ _ _ h => h.2)
    · exact PR.m_MarginHand_put.use PR.c_MarginHand.cl (fun _ _ _ _ _ _ => L2.len3 fun _ _ _ => rfl) fun f fd F => ((ok_Hand_put F T HT m_would_err m_mend).mono (by decide)).imp (fun _ _ _ _ h => h.2)
    · exact PR.m_HalvingHand_put.use PR.c_HalvingHand.cl (fun _ _ _ _ _ _ => L2.len3 fun _ _ _ => rfl) fun f fd F => ((ok_Hand_put F T HT m_would_err m_mend).mono (by decide)).imp (fun _ _ _ _ h => h.2)
    · exact PR.m_SidesHand_put.use PR.c_SidesHand.cl (fun _ _ _ _ _ _ => L2.len3 fun _ _ _ => rfl) fun f fd F => ((ok_Hand_put F T HT m_would_err m_mend).mono (by decide)).imp (fun _ _ _ _ h => h.2)⟩
  have m_weights : MCal P w K mg base 20 (Kds (clsK C_Hand C_PlainHand C_MarginHand C_HalvingHand C_SidesHand T_tab) [0, 1, 2, 3, 4]) "weights" ["self"] (spWtsG (clsK C_Hand C_PlainHand C_MarginHand C_HalvingHand C_SidesHand T_tab) [0, 1, 2, 3, 4]) := ⟨fun C h => by
    obtain ⟨k, hk, rfl⟩ := (show Kds (clsK C_Hand C_PlainHand C_MarginHand C_HalvingHand C_SidesHand T_tab) [0, 1, 2, 3, 4] C from h)
    rcases (show k = 0 \/ k = 1 \/ k = 2 \/ k = 3 \/ k = 4 from by simpa using hk) with rfl | rfl | rfl | rfl | rfl
    · exact PR.m_Hand_weights.use PR.c_Hand.cl (fun _ _ _ _ _ _ => L2.len1 fun _ => rfl) fun f fd F => ((ok_Hand_weights F T HT).mono (by decide)).imp (fun _ _ _ _ h => h.2)
    · exact PR.m_PlainHand_weights.use PR.c_PlainHand.cl (fun _ _ _ _ _ _ => L2.len1 fun _ => rfl) fun f fd F => ((ok_Hand_weights F T HT).mono (by decide)).imp (fun _ _ _ _ h => h.2)
    · exact PR.m_MarginHand_weights.use PR.c_MarginHand.cl (fun _ _ _ _ _ _ => L2.len1 fun _ => rfl) fun f fd F => ((ok_Hand_weights F T HT).mono (by decide)).imp (fun _ _ _ _ h => h.2)
    · exact PR.m_HalvingHand_weights.use PR.c_HalvingHand.cl (fun _ _ _ _ _ _ => L2.len1 fun _ => rfl) fun f fd F => ((ok_Hand_weights F T HT).mono (by decide)).imp (fun _ _ _ _ h => h.2)
    · exact PR.m_SidesHand_weights.use PR.c_SidesHand.cl (fun _ _ _ _ _ _ => L2.len1 fun _ => rfl) fun f fd F => ((ok_Hand_weights F T HT).mono (by decide)).imp (fun _ _ _ _ h => h.2)⟩
  have m_mistakes : MCal P w K mg base 20 (Kds (clsK C_Hand C_PlainHand C_MarginHand C_HalvingHand C_SidesHand T_tab) [0, 1, 2, 3, 4]) "mistakes" ["self"] (spErrG (clsK C_Hand C_PlainHand C_MarginHand C_HalvingHand C_SidesHand T_tab) [0, 1, 2, 3, 4]) := ⟨fun C h => by
    obtain ⟨k, hk, rfl⟩ := (show Kds (clsK C_Hand C_PlainHand C_MarginHand C_HalvingHand C_SidesHand T_tab) [0, 1, 2, 3, 4] C from h)
    rcases (show k = 0 \/ k = 1 \/ k = 2 \/ k = 3 \/ k = 4 from by simpa using hk) with rfl | rfl | rfl | rfl | rfl
    · exact PR.m_Hand_mistakes.use PR.c_Hand.cl (fun _ _ _ _ _ _ => L2.len1 fun _ => rfl) fun f fd F => ((ok_Hand_mistakes F T HT).mono (by decide)).imp (fun _ _ _ _ h => h.2)
    · exact PR.m_PlainHand_mistakes.use PR.c_PlainHand.cl (fun _ _ _ _ _ _ => L2.len1 fun _ => rfl) fun f fd F => ((ok_Hand_mistakes F T HT).mono (by decide)).imp (fun _ _ _ _ h => h.2)
    · exact PR.m_MarginHand_mistakes.use PR.c_MarginHand.cl (fun _ _ _ _ _ _ => L2.len1 fun _ => rfl) fun f fd F => ((ok_Hand_mistakes F T HT).mono (by decide)).imp (fun _ _ _ _ h => h.2)
    · exact PR.m_HalvingHand_mistakes.use PR.c_HalvingHand.cl (fun _ _ _ _ _ _ => L2.len1 fun _ => rfl) fun f fd F => ((ok_Hand_mistakes F T HT).mono (by decide)).imp (fun _ _ _ _ h => h.2)
    · exact PR.m_SidesHand_mistakes.use PR.c_SidesHand.cl (fun _ _ _ _ _ _ => L2.len1 fun _ => rfl) fun f fd F => ((ok_Hand_mistakes F T HT).mono (by decide)).imp (fun _ _ _ _ h => h.2)⟩
  have b_PlainHand___init__ : BCal P w K mg base 2 "PlainHand" "__init__" ["self", "many"] (spBI (clsK C_Hand C_PlainHand C_MarginHand C_HalvingHand C_SidesHand T_tab) [0, 1, 2, 3, 4]) := PR.b_PlainHand___init__.use PR.c_PlainHand.g (fun _ _ _ _ _ _ => L2.len2 fun _ _ => rfl) fun f fd F => (ok_Hand___init__ F T HT).mono (by decide)
  have b_Hand___init__ : BCal P w K mg base 2 "Hand" "__init__" ["self", "many"] (spBI (clsK C_Hand C_PlainHand C_MarginHand C_HalvingHand C_SidesHand T_tab) [0, 1, 2, 3, 4]) := PR.b_Hand___init__.use PR.c_Hand.g (fun _ _ _ _ _ _ => L2.len2 fun _ _ => rfl) fun f fd F => (ok_Hand___init__ F T HT).mono (by decide)
  have n_Hand : NCal P w K mg base 20 "Hand" ["self", "many"] (spNew (hI (clsK C_Hand C_PlainHand C_MarginHand C_HalvingHand C_SidesHand T_tab) [0, 1, 2, 3, 4]) 0) := PR.c_Hand.new PR.m_Hand___init__ (fun _ _ _ _ _ _ => L2.len2 fun _ _ => rfl) spNew_mono fun f fd F => ((ok_Hand___init__ F T HT).mono (by decide)).imp (fun vs H Q E h => init_h (kd := 0) rfl (by decide) (by decide) h)
  have n_PlainHand : NCal P w K mg base 20 "PlainHand" ["self", "many"] (spNew (hI (clsK C_Hand C_PlainHand C_MarginHand C_HalvingHand C_SidesHand T_tab) [0, 1, 2, 3, 4]) 1) := PR.c_PlainHand.new PR.m_PlainHand___init__ (fun _ _ _ _ _ _ => L2.len2 fun _ _ => rfl) spNew_mono fun f fd F => ((ok_Hand___init__ F T HT).mono (by decide)).imp (fun vs H Q E h => init_h (kd := 1) rfl (by decide) (by decide) h)
  have n_MarginHand : NCal P w K mg base 20 "MarginHand" ["self", "many", "margin"] (spNew (hI (clsK C_Hand C_PlainHand C_MarginHand C_HalvingHand C_SidesHand T_tab) [0, 1, 2, 3, 4]) 2) := PR.c_MarginHand.new PR.m_MarginHand___init__ (fun _ _ _ _ _ _ => L2.len3 fun _ _ _ => rfl) spNew_mono fun f fd F => ((ok_MarginHand___init__ F T HT b_PlainHand___init__).mono (by decide)).imp (fun _ _ _ _ h => ⟨by decide, h⟩)
  have n_HalvingHand : NCal P w K mg base 20 "HalvingHand" ["self", "many"] (spNewV (gI Gnd.v (clsK C_Hand C_PlainHand C_MarginHand C_HalvingHand C_SidesHand T_tab) [0, 1, 2, 3, 4])) := PR.c_HalvingHand.new PR.m_HalvingHand___init__ (fun _ _ _ _ _ _ => L2.len2 fun _ _ => rfl) spNewV_mono fun f fd F => ((ok_HalvingHand___init__ F T HT b_Hand___init__).mono (by decide)).imp (fun _ _ _ _ h => ⟨by decide, h⟩)
  have n_SidesHand : NCal P w K mg base 20 "SidesHand" ["self", "many", "sides"] (spNewS (gI Gnd.s (clsK C_Hand C_PlainHand C_MarginHand C_HalvingHand C_SidesHand T_tab) [0, 1, 2, 3, 4])) := PR.c_SidesHand.new PR.m_SidesHand___init__ (fun _ _ _ _ _ _ => L2.len3 fun _ _ _ => rfl) spNewS_mono fun f fd F => ((ok_SidesHand___init__ F T HT b_Hand___init__).mono (by decide)).imp (fun _ _ _ _ h => ⟨by decide, h⟩)
  exact ⟨m_put, m_weights, m_mistakes, m_would_err, HT, n_Hand, n_PlainHand, n_MarginHand, n_HalvingHand, n_SidesHand⟩
end Mw
namespace Mw
open PySem L2
theorem wrong_book {P : Program} {w : World} {K : PySem.W.Frag} {mg : Str -> Option Value} {base : Heap} {C_Hand C_PlainHand C_MarginHand C_HalvingHand C_SidesHand X_MendError X_NoFraction X_NoPoint X_NoSide X_NoRow X_NoTable X_NoText X_NotParted X_OneSide X_TooMany X_WrongBook T_code T_tab : Addr} (PR : Prog K mg C_Hand C_PlainHand C_MarginHand C_HalvingHand C_SidesHand X_MendError X_NoFraction X_NoPoint X_NoSide X_NoRow X_NoTable X_NoText X_NotParted X_OneSide X_TooMany X_WrongBook T_code T_tab) (T : Txt BN mg) : XCal P w K mg base 2 "WrongBook" X_WrongBook "place" := by
  obtain ⟨f, fd, M, F⟩ := PR.m_WrongBook___init__.ex
  exact ⟨PR.i_WrongBook, f, fd, _, M, (ok_WrongBook___init__ F T PR.i_WrongBook.s).mono (by decide), F.binds (fun _ _ _ _ _ _ => L2.len2 fun _ _ => rfl)⟩
end Mw
namespace PySem.W.Fast
def tw4741985020437136336 := 0
def tw8450621985272455197 := 0
def tw14388630635189875316 := 0
def tw8743424311985572344 := 0
def tw6730776270047679050 := 0
def tw10896494573321049298 := 0
def tw5109030367282670994 := 0
def tw13426906194649833903 := 0
def tw1288644501408943606 := 0
def tw9995448909511151357 := 0
def tw11812669911053185806 := 0
def tw137671039872856084 := 0
def tw5599560383309372775 := 0
def tw11693412363037118049 := 0
def tw10163057540567481226 := 0
def tw864577650760863893 := 0
def tw15572782850156219219 := 0
def tw10916235970719098917 := 0
def tw7211236295516001343 := 0
def tw760973892319623335 := 0
def tw5202954383093213455 := 0
def tw3045978381495078302 := 0
def tw13768698590048485410 := 0
def tw2228296609477606852 := 0
def tw2073114817144335347 := 0
def tw3129563955172835925 := 0
def tw10459793555710049713 := 0
def tw14919514088023780934 := 0
def tw11436584092864005660 := 0
def tw16259083781132990050 := 0
def tw11826005236007489686 := 0
def tw12338772680290650282 := 0
def tw14223047254957422623 := 0
def tw5361499005116480751 := 0
def tw3303746605557060752 := 0
def tw14328071363907150259 := 0
def tw16181534055437521526 := 0
def tw17389386358336126071 := 0
def tw2539591253579303757 := 0
def tw17951620175001697781 := 0
def tw2317262623524303771 := 0
def tw5270534001392787504 := 0
def tw509507905913926215 := 0
def tw4989796499272457006 := 0
def tw8779689130408333286 := 0
def tw11071537498882833874 := 0
def tw91233271571006117 := 0
def tw4191529048604143857 := 0
def tw15725345620418056301 := 0
def tw14984349959171966448 := 0
def tw1160869986143456992 := 0
def tw16682631100108285701 := 0
def tw8193124538746268508 := 0
def tw10574966070456811815 := 0
def tw5104851564688804447 := 0
def tw14556028720755660365 := 0
def tw10679880268547800060 := 0
def tw2701167861704173121 := 0
def tw2825904503057217556 := 0
def tw3968919016583608601 := 0
def tw14644121862131712211 := 0
def tw8186991308258761248 := 0
def tw5615716212248513592 := 0
def tw9906503318021798952 := 0
def tw10336620331867213036 := 0
def tw3658495426410116432 := 0
def tw3707198865854530085 := 0
def tw10127787697356811350 := 0
def tw3786344723632523015 := 0
def tw1363941835372379130 := 0
def tw17263289057604990101 := 0
def tw9408396078450558077 := 0
def tw7851420244215031000 := 0
def tw2475389226403104711 := 0
def tw13665128175745270517 := 0
def tw16196436314212423164 := 0
def tw690419805388633081 := 0
def tw9818921751128451490 := 0
def tw16689615429426062598 := 0
def tw16959167694091581797 := 0
def tw15312116750502149835 := 0
def tw15773710810837008478 := 0
def tw15798078834935683455 := 0
def tw16712819490203581977 := 0
def tw6993931859940698028 := 0
def tw5698490274101946241 := 0
def tw5872003275204294813 := 0
def tw8859700744092510110 := 0
def tw10997981759000657925 := 0
def tw2305170825485416069 := 0
def tw10597647854199193572 := 0
def tw4840064856883562396 := 0
def tw6084483686737762516 := 0
def tw15356288671740937484 := 0
def tw15093500920296513157 := 0
def tw4565200382554891317 := 0
def tw4609642917138412283 := 0
def tw13438613544784842756 := 0
def tw6259431631364307732 := 0
def tw10402570732931709126 := 0
def tw4837452511402722482 := 0
def tw2085048344191732288 := 0
def tw8179320649496721863 := 0
def tw13300211317376269568 := 0
def tw17479462442510193281 := 0
def tw3147672854795783846 := 0
def tw16925186957756499455 := 0
def tw15182798107532824100 := 0
def tw10944909260568154931 := 0
def tw12666900445386544471 := 0
def tw4906258585181330443 := 0
def tw16699211672174013016 := 0
def tw10903812699471251631 := 0
def tw14465388129599626436 := 0
def tw16094314041123277038 := 0
def tw12525421468013551129 := 0
def tw17538422562848631128 := 0
def tw4635509829224041329 := 0
def tw17286896881129003607 := 0
def tw6239311369238507 := 0
def tw15397880898635113295 := 0
def tw16680719183439727338 := 0
def tw11111158247237446832 := 0
def tw6745840582973285947 := 0
def tw8773952402661803087 := 0
def tw12997997995612404595 := 0
def tw16540496010134921481 := 0
def tw4872016288196025096 := 0
def tw15500650569127529170 := 0
def tw2019115316155398755 := 0
def tw13301736596625122175 := 0
def tw14400664194148243661 := 0
def tw14482404744989624584 := 0
def tw16670676468483030790 := 0
def tw17639672504654868636 := 0
def tw10953570194556963333 := 0
def tw4783530107867446983 := 0
def tw645785269914936923 := 0
def tw18387066856747962973 := 0
def tw12461541467821774655 := 0
def tw10654634357430104549 := 0
def tw9502846559179842525 := 0
def tw14527303350127732192 := 0
def tw14696363446288378384 := 0
def tw17017365394235840020 := 0
def tw9688160510311514736 := 0
def tw6128598168561297884 := 0
def tw15784150810972150981 := 0
def tw7301619918226426036 := 0
def tw3815487822680891454 := 0
def tw4101577545691511468 := 0
def tw1584043759729804372 := 0
def tw12899512045634641540 := 0
def tw11784616734244079068 := 0
def tw3356535716884266850 := 0
def tw4589807037936205949 := 0
def tw17966717741577993059 := 0
def tw3904838739305129153 := 0
def tw4078438579659226798 := 0
def tw1827215841591532457 := 0
def tw6890323279498700430 := 0
def tw7081726503238522099 := 0
def tw12444073823522012483 := 0
def tw17543204814735506819 := 0
def tw8670196785391131172 := 0
def tw10412743911189915053 := 0
def tw9271458863450645507 := 0
def tw13481680419872116485 := 0
def tw8506296526844500580 := 0
def tw6466596657601201296 := 0
def tw8697481017979772289 := 0
def tw12435010190922579337 := 0
def tw15690840247774317741 := 0
def tw11360603357678836160 := 0
def tw12675770574571458699 := 0
def tw485178787738591676 := 0
def tw14232549845995712262 := 0
def tw5482632366061997655 := 0
def tw15259857411326428733 := 0
def tw3857050649131266172 := 0
def tw13251028606580529493 := 0
def tw11133161181626296457 := 0
def tw8304412175216689715 := 0
def tw767793303592462078 := 0
def tw17445642669625654451 := 0
def tw1386357674721060267 := 0
def tw13911756887927389358 := 0
def tw10287527070086445457 := 0
def tw12673954021489743525 := 0
def tw11695587224149755520 := 0
def tw18334472290621396059 := 0
def tw12793071717730065843 := 0
def tw11576647786635791126 := 0
def tw17216122929637780824 := 0
def tw15135036081469818702 := 0
def tw5047290078426814342 := 0
def tw16315701911544223360 := 0
def tw16999322992904990201 := 0
def tw9899037405348764772 := 0
def tw17987142748526297093 := 0
def tw1147296659847407826 := 0
def tw8359173966065766558 := 0
def tw15030511944560642681 := 0
def tw15619224564636121546 := 0
def tw4241467015590877354 := 0
def tw11806008830148688075 := 0
def tw16645059114610580449 := 0
def tw11337595694671491355 := 0
def tw664043704777044030 := 0
def tw17785318675616763180 := 0
def tw7932618267238697876 := 0
def tw1872869079036170187 := 0
def tw17070504213605233914 := 0
def tw7031310732192625020 := 0
def tw10176463735933212020 := 0
def tw13491653027610079070 := 0
def tw15009975446247674896 := 0
def tw4801957841628706845 := 0
def tw14270555000721306102 := 0
def tw11188793649515787252 := 0
def tw17556578416429863953 := 0
def tw12100996163670433312 := 0
def tw13980691817985369931 := 0
def tw15679068074838763490 := 0
def tw8259918352338066180 := 0
def tw6605326455625264380 := 0
def tw2678752431709205486 := 0
def tw12565980955743133926 := 0
def tw6122510034246382607 := 0
def tw4170026453304318701 := 0
def tw12488196824902763346 := 0
def tw12434641959216528656 := 0
def tw10200845641097940348 := 0
def tw12064915019930805138 := 0
def tw4116098389424883959 := 0
def tw4088048886981667815 := 0
def tw3294233357725410074 := 0
def tw10155642996496757085 := 0
def tw17277072431772604762 := 0
def tw15304159852918060524 := 0
def tw14161257145985069873 := 0
def tw13778435804387177085 := 0
def tw17433852566354890692 := 0
def tw18165449553464886159 := 0
def tw11011002232101344805 := 0
def tw12389882287847569959 := 0
def tw15167848664899580674 := 0
def tw12329740252557432555 := 0
def tw14468975139363183248 := 0
def tw6069534021730174440 := 0
def tw17499351517036088754 := 0
def tw6391786881144166733 := 0
def tw2702436219768802290 := 0
def tw8865166555348379534 := 0
def tw14906634784667769662 := 0
def tw13630054682728042237 := 0
def tw10472086133638612856 := 0
def tw10840657419740801994 := 0
def tw5409930265542433634 := 0
def tw11160638016814351630 := 0
def tw11262111576675066708 := 0
def tw3587007316241834451 := 0
def tw2267279904772717306 := 0
def tw5826679804972190286 := 0
def tw3008530734712281080 := 0
def tw5958784692071253032 := 0
def tw17667591519190139394 := 0
def tw7443578311314440973 := 0
def tw13773143066420283188 := 0
def tw15913710898106596570 := 0
def tw6142979611863315880 := 0
def tw4037693056661388948 := 0
def tw54522549614077694 := 0
def tw3411575035395813513 := 0
def tw14564175300556121286 := 0
def tw5343279017556396320 := 0
def tw5551175169642089474 := 0
def tw17253753343528522452 := 0
def tw9656851607704437330 := 0
def tw13688043251755860148 := 0
def tw3341386700075270392 := 0
def tw7838098828302531179 := 0
def tw14294625412226631718 := 0
def tw14936045489260230604 := 0
def tw3981298170245394518 := 0
def tw13518712811071547306 := 0
def tw6760739500257526760 := 0
def tw2135204710883264684 := 0
def tw11057556262198521945 := 0
def tw14609339830920875909 := 0
def tw11279124349039022869 := 0
def tw16808983145618570326 := 0
def tw2253293842553295417 := 0
def tw12638190876252796874 := 0
def tw18224459659752204156 := 0
def tw16449094138118818548 := 0
def tw858150825278993009 := 0
def tw17478605238404715558 := 0
def tw10399816788515014787 := 0
def tw3098265600287924970 := 0
def tw8258454207881300048 := 0
def tw10454396953377381919 := 0
def tw14749040268864971760 := 0
def tw13642046290600226760 := 0
def tw6025428336476001200 := 0
def tw14659503684865400965 := 0
def tw5489831082796681357 := 0
def tw6294305547191695987 := 0
def tw17119019455961444304 := 0
def tw13310444676446469255 := 0
def tw12032124216726605618 := 0
def tw2675050866310456999 := 0
def tw11105793562671605653 := 0
def tw11832513265007569955 := 0
def tw13493875561887508550 := 0
def tw16773311809048752789 := 0
def tw602601188476036121 := 0
def tw8477947882369529456 := 0
def tw12863086387380596541 := 0
def tw10394596050819263550 := 0
def tw13981851559287811172 := 0
def tw10980649450171227357 := 0
def tw13741330283495755281 := 0
def tw11695661159427002009 := 0
def tw6498981174104362528 := 0
def tw1847602768540883697 := 0
def tw16612832454288147434 := 0
def tw8931706433424040500 := 0
def tw18033765674416194137 := 0
def tw12302902956142720534 := 0
def tw2721479512652892734 := 0
def tw9118662883862393881 := 0
def tw1739677238727490621 := 0
def tw10171074036232092723 := 0
def tw8490644227986131041 := 0
def tw6630665186066919054 := 0
def tw7702910118580057853 := 0
def tw7162312533107830652 := 0
def tw17171738057563644527 := 0
def tw18331239108676074510 := 0
def tw14370744414667175742 := 0
def tw13315274275314841208 := 0
def tw621691157708573979 := 0
def tw9912702707474437240 := 0
def tw12605345450382394466 := 0
def tw9207398263529093370 := 0
def tw9367654133323431788 := 0
def tw15522535346924598732 := 0
def tw9604602234477335713 := 0
def tw12171973633010731648 := 0
def tw11256862654681679276 := 0
def tw43089455628786252 := 0
def tw14964421875773803397 := 0
def tw13170234170379418179 := 0
def tw9905443858712899456 := 0
def tw15460967602815682333 := 0
def tw6020127073430575965 := 0
def tw12176284766796831706 := 0
def tw13669970113334196075 := 0
def tw12187736107489024696 := 0
def tw6373500796034024828 := 0
def tw7795594163704519867 := 0
def tw10906087174559889422 := 0
def tw5018071433473812909 := 0
def tw10363380184719583705 := 0
def tw12368289244381770969 := 0
def tw9369886586739167880 := 0
def tw6850511778839522872 := 0
def tw5359948962647191717 := 0
def tw781744062150392219 := 0
def tw5325428752698493092 := 0
def tw15321041956390966483 := 0
def tw10784526080539008973 := 0
def tw1229394805734200507 := 0
def tw14735737549725375921 := 0
def tw12085127293404630707 := 0
def tw9061688776882402033 := 0
def tw565163375608649006 := 0
def tw9958953229548049847 := 0
def tw4942104615527280530 := 0
def tw9306239141385370062 := 0
def tw17967221199581064739 := 0
def tw6064035195699770791 := 0
def tw10030325856394929773 := 0
def tw13913142695559809489 := 0
def tw15470622024048896869 := 0
def tw12513510908214955403 := 0
def tw10744854238375152265 := 0
def tw17789509838169819125 := 0
def tw15552095656177007617 := 0
def tw7674319682727061551 := 0
def tw2366873871935623401 := 0
def tw12998550918180198293 := 0
def tw17622717149731632236 := 0
def tw15259675850091789958 := 0
def tw5760152713753380645 := 0
def tw10561123202005022277 := 0
def tw2857813838023456760 := 0
def tw16514970552998541710 := 0
def tw12564954171416188449 := 0
def tw12542025347848373255 := 0
def tw1133973979086489659 := 0
def tw1335509471175385673 := 0
def tw6601374196096468450 := 0
def tw18139083327388535160 := 0
def tw11498532399666338855 := 0
def tw6666617881243359752 := 0
def tw9971463480510866698 := 0
def tw345392382005517175 := 0
def tw5895019751571212660 := 0
def tw3375742095539779074 := 0
def tw13691287441427149759 := 0
def tw6624732062874338181 := 0
def tw15762532264545779872 := 0
def tw13812112034997470244 := 0
def tw6983570043177047914 := 0
def tw5402094774027700995 := 0
def tw11624775281266007065 := 0
def tw9233942071216774339 := 0
def tw6378834044434631811 := 0
def tw6517626739715805833 := 0
def tw17660868774929209840 := 0
def tw17224008905758861343 := 0
def tw280126303580217412 := 0
def tw6157644431605269084 := 0
def tw10325488265724224928 := 0
def tw12594350635221456478 := 0
def tw15373877295926383440 := 0
def tw5904398248056250821 := 0
def tw11851160750636240421 := 0
def tw5367550988739461722 := 0
def tw7714795977302216589 := 0
def tw15304000853215246086 := 0
def tw13063553173433347538 := 0
def tw6673208555337639181 := 0
def tw15899369518534711987 := 0
def tw8454738842844361740 := 0
def tw9288964633843633613 := 0
def tw14461201034763929470 := 0
def tw9207016465859014394 := 0
def tw12783585221340590195 := 0
def tw4043827264251471313 := 0
def tw1803624537652220792 := 0
def tw4058131426628052348 := 0
def tw689658331501287030 := 0
def tw18081090522677370213 := 0
def tw507405672889586804 := 0
def tw4799466584865751621 := 0
def tw779459829807194378 := 0
def tw12720906536234503452 := 0
def tw6780009772590996445 := 0
def tw11929542685939203382 := 0
def tw10455908131711045558 := 0
def tw1645669793872847513 := 0
def tw17584537436315922252 := 0
def tw10882398136489124421 := 0
def tw16330632029164273008 := 0
def tw6564491201431423227 := 0
def tw14547593832047016561 := 0
def tw10799415492351717837 := 0
def tw5654878573539061287 := 0
def tw4098452265605383314 := 0
def tw3103045618652410351 := 0
def tw11095681585926188787 := 0
def tw10045260311426991301 := 0
def tw6661136730813748142 := 0
def tw16426662144774829570 := 0
def tw15284149415614965616 := 0
def tw4142406558342407392 := 0
def tw13288606695948699383 := 0
def tw3695797562978842421 := 0
def tw11013339998516038870 := 0
def tw6092849346191411044 := 0
def tw3198577269107881673 := 0
def tw6924281146929785317 := 0
def tw977890189074446986 := 0
def tw10825187484481903331 := 0
def tw11350823445391342050 := 0
def tw9307812330981118981 := 0
def tw8386508720642969156 := 0
def tw15971965483338220163 := 0
def tw7496661095734374296 := 0
def tw7631437629202257895 := 0
def tw7934768301400792 := 0
def tw15263514736957960857 := 0
def tw10417724141973827940 := 0
def tw7676800206617781486 := 0
def tw12436504834754938134 := 0
def tw10120716921574080087 := 0
def tw14378272030098142123 := 0
def tw15296647856157729248 := 0
def tw18050456975296767219 := 0
def tw9558872967690935133 := 0
def tw13150483095733288771 := 0
def tw16849218623032555850 := 0
def tw14341286064812147597 := 0
def tw13887973900298616195 := 0
def tw9133820201219073253 := 0
def tw7144549118747322890 := 0
def tw15305347826032973037 := 0
def tw1608126787692741355 := 0
def tw8885522463755307742 := 0
def tw4514671815471348863 := 0
def tw9246310684117279891 := 0
def tw13483820408296132757 := 0
def tw5916796474226042673 := 0
def tw3360065769510548328 := 0
def tw9402538894324324097 := 0
def tw15903489101123439995 := 0
def tw5168786609051371323 := 0
def tw7717668398734028825 := 0
def tw12279960243868836062 := 0
def tw10575648482430024921 := 0
def tw2639648955197916389 := 0
def tw2178348432854433052 := 0
def tw12209807705229451686 := 0
def tw5324989568871597983 := 0
def tw13072709868771918286 := 0
def tw7187674445520328762 := 0
def tw14052163304541506568 := 0
def tw14459742588180822212 := 0
def tw11739052545381019946 := 0
def tw3717822438691424314 := 0
def tw1253927704323261561 := 0
def tw11988138528442198358 := 0
def tw10687422606453979879 := 0
def tw5211090551553525448 := 0
end PySem.W.Fast
open PySem PySem.W PyProof.Rows
set_option maxRecDepth 100000 in
set_option maxHeartbeats 0 in
theorem PySem.Challenge.cw_mendweights_k14_books_replayed_holds : PySem.Challenge.rw_mendweights_k14_books_replayed.Holds := by
  w_on; o_law; k_head; (case hw => w_witness2)
  k_fill
  refine L2.walkLawT (l := PySem.Challenge.rw_mendweights_k14_books_replayed) (k := 25) (x := "_law_script") (t := 427) rfl rfl ⟨rfl, by decide, by decide⟩ (fun w h Y => PySem.W.km_in_of Y) (fun w h Y => PySem.W.km_tabs_of Y 427 (by k_mem)) ?F
  case F =>
    intro w mg fa h KX G hmg
    have T : L2.Txt Mw.BN mg := by
      refine' L2.txt_cons KX G ?z1 (L2.txt_cons KX G ?z2 (L2.txt_cons KX G ?z3 (L2.txt_cons KX G ?z4 (L2.txt_cons KX G ?z5 (L2.txt_cons KX G ?z6 (L2.txt_cons KX G ?z7 (L2.txt_cons KX G ?z8 (L2.txt_cons KX G ?z9 (L2.txt_cons KX G ?z10 (L2.txt_cons KX G ?z11 (L2.txt_cons KX G ?z12 (L2.txt_cons KX G ?z13 L2.txt_nil))))))))))))
      (case z1 => k_is); (case z2 => k_is); (case z3 => k_is); (case z4 => k_is); (case z5 => k_is); (case z6 => k_is); (case z7 => k_is); (case z8 => k_is); (case z9 => k_is); (case z10 => k_is); (case z11 => k_is); (case z12 => k_is); (case z13 => k_is)
    obtain ⟨C_Hand, C_PlainHand, C_MarginHand, C_HalvingHand, C_SidesHand, X_MendError, X_NoFraction, X_NoPoint, X_NoSide, X_NoRow, X_NoTable, X_NoText, X_NotParted, X_OneSide, X_TooMany, X_WrongBook, T_code, PR⟩ : ∃ C_Hand C_PlainHand C_MarginHand C_HalvingHand C_SidesHand X_MendError X_NoFraction X_NoPoint X_NoSide X_NoRow X_NoTable X_NoText X_NotParted X_OneSide X_TooMany X_WrongBook T_code, Mw.Prog (L2.KOf KX) mg C_Hand C_PlainHand C_MarginHand C_HalvingHand C_SidesHand X_MendError X_NoFraction X_NoPoint X_NoSide X_NoRow X_NoTable X_NoText X_NotParted X_OneSide X_TooMany X_WrongBook T_code 427 := by
      dsimp only [L2.KOf]
      refine' ⟨_, _, _, _, _, _, _, _, _, _, _, _, _, _, _, _, _, ⟨⟨⟨?z2, ?z3, ?z4, ?z5⟩, ?z6, ?z7, PySem.W.mg_of KX G ?z1⟩, ⟨⟨?z9, ?z10, ?z11, ?z12⟩, ?z13, ?z14, PySem.W.mg_of KX G ?z8⟩, ⟨⟨?z16, ?z17, ?z18, ?z19⟩, ?z20, ?z21, PySem.W.mg_of KX G ?z15⟩, ⟨⟨?z23, ?z24, ?z25, ?z26⟩, ?z27, ?z28, PySem.W.mg_of KX G ?z22⟩, ⟨⟨?z30, ?z31, ?z32, ?z33⟩, ?z34, ?z35, PySem.W.mg_of KX G ?z29⟩, ⟨⟨?z37⟩, PySem.W.mg_of KX G ?z36⟩, ⟨⟨?z39⟩, PySem.W.mg_of KX G ?z38⟩, ⟨⟨?z41⟩, PySem.W.mg_of KX G ?z40⟩, ⟨⟨?z43⟩, PySem.W.mg_of KX G ?z42⟩, ⟨PySem.W.mg_of KX G ?z44⟩, ⟨PySem.W.mg_of KX G ?z45⟩, ⟨PySem.W.mg_of KX G ?z46⟩, ⟨PySem.W.mg_of KX G ?z47⟩, ⟨PySem.W.mg_of KX G ?z48⟩, ⟨PySem.W.mg_of KX G ?z49⟩, ⟨PySem.W.mg_of KX G ?z50⟩, ⟨?z52, ⟨?z53, ?z54, ?z55, ?z56⟩, ⟨?z57, ?z58, ?z59, ?z60, ?z61⟩, PySem.W.mg_of KX G ?z51⟩, ⟨⟨_, _, ⟨?z62, ?z63, ?z64⟩, L2.fun_mk ?z65 ?z66 ?z67⟩⟩, ⟨?z122, ?z123, ?z124, ?z125, ?z126, ?z127, ?z128⟩, ?z129, ?z130, ?z131, ?z132, ?z133, ?z134, ?z135, ?z136, ?z137, ?z138, ?z139, ?z143, ?z144, ?z145, ?z146, ⟨⟨_, _, ⟨?z149, ?z150, ?z151⟩, L2.fun_mk ?z152 ?z153 ?z154⟩⟩, ⟨⟨_, _, ⟨?z155, ?z156, ?z157⟩, L2.fun_mk ?z158 ?z159 ?z160⟩⟩, ⟨⟨_, _, ⟨?z161, ?z162, ?z163⟩, L2.fun_mk ?z164 ?z165 ?z166⟩⟩, ⟨⟨_, _, ⟨?z167, ?z168, ?z169⟩, L2.fun_mk ?z170 ?z171 ?z172⟩⟩, ⟨⟨_, _, ⟨?z173, ?z174, ?z175⟩, L2.fun_mk ?z176 ?z177 ?z178⟩⟩, ⟨⟨_, _, ⟨?z179, ?z180, ?z181⟩, L2.fun_mk ?z182 ?z183 ?z184⟩⟩, ⟨⟨_, _, ⟨?z185, ?z186, ?z187⟩, L2.fun_mk ?z188 ?z189 ?z190⟩⟩, ⟨⟨_, _, ⟨?z191, ?z192, ?z193⟩, L2.fun_mk ?z194 ?z195 ?z196⟩⟩, ⟨⟨_, _, ⟨?z197, ?z198, ?z199⟩, L2.fun_mk ?z200 ?z201 ?z202⟩⟩, ⟨⟨_, _, ⟨?z203, ?z204, ?z205⟩, L2.fun_mk ?z206 ?z207 ?z208⟩⟩, ?z209, ?z210, ?z211, ⟨⟨_, _, ⟨?z214, ?z215, ?z216⟩, L2.fun_mk ?z217 ?z218 ?z219⟩⟩, ⟨⟨_, _, ⟨?z220, ?z221, ?z222⟩, L2.fun_mk ?z223 ?z224 ?z225⟩⟩, ⟨⟨_, _, ⟨?z226, ?z227, ?z228⟩, L2.fun_mk ?z229 ?z230 ?z231⟩⟩, ⟨⟨_, _, ⟨?z232, ?z233, ?z234⟩, L2.fun_mk ?z235 ?z236 ?z237⟩⟩, ⟨⟨_, _, ⟨?z238, ?z239, ?z240⟩, L2.fun_mk ?z241 ?z242 ?z243⟩⟩, ⟨⟨_, _, ⟨?z244, ?z245, ?z246⟩, L2.fun_mk ?z247 ?z248 ?z249⟩⟩, ⟨⟨_, _, ⟨?z250, ?z251, ?z252⟩, L2.fun_mk ?z253 ?z254 ?z255⟩⟩, ⟨⟨_, _, ⟨?z256, ?z257, ?z258⟩, L2.fun_mk ?z259 ?z260 ?z261⟩⟩, ⟨⟨_, _, ⟨?z262, ?z263, ?z264⟩, L2.fun_mk ?z265 ?z266 ?z267⟩⟩, ⟨⟨_, _, ⟨?z268, ?z269, ?z270⟩, L2.fun_mk ?z271 ?z272 ?z273⟩⟩, ?z274, ?z275, ?z276, ?z277, ⟨⟨_, _, ⟨?z279, ?z280, ?z281⟩, L2.fun_mk ?z282 ?z283 ?z284⟩⟩, ⟨⟨_, _, ⟨?z285, ?z286, ?z287⟩, L2.fun_mk ?z288 ?z289 ?z290⟩⟩, ⟨⟨_, _, ⟨?z291, ?z292, ?z293⟩, L2.fun_mk ?z294 ?z295 ?z296⟩⟩, ⟨⟨_, _, ⟨?z297, ?z298, ?z299⟩, L2.fun_mk ?z300 ?z301 ?z302⟩⟩, ⟨⟨_, _, ⟨?z303, ?z304, ?z305⟩, L2.fun_mk ?z306 ?z307 ?z308⟩⟩, ⟨⟨_, _, ⟨?z309, ?z310, ?z311⟩, L2.fun_mk ?z312 ?z313 ?z314⟩⟩, ⟨⟨_, _, ⟨?z315, ?z316, ?z317⟩, L2.fun_mk ?z318 ?z319 ?z320⟩⟩, ⟨⟨_, _, ⟨?z321, ?z322, ?z323⟩, L2.fun_mk ?z324 ?z325 ?z326⟩⟩, ⟨⟨_, _, ⟨?z327, ?z328, ?z329⟩, L2.fun_mk ?z330 ?z331 ?z332⟩⟩, ⟨⟨_, _, ⟨?z333, ?z334, ?z335⟩, L2.fun_mk ?z336 ?z337 ?z338⟩⟩, ?z339, ?z340, ?z341, ⟨⟨_, _, ⟨?z344, ?z345, ?z346⟩, L2.fun_mk ?z347 ?z348 ?z349⟩⟩, ⟨⟨_, _, ⟨?z350, ?z351, ?z352⟩, L2.fun_mk ?z353 ?z354 ?z355⟩⟩, ⟨⟨_, _, ⟨?z356, ?z357, ?z358⟩, L2.fun_mk ?z359 ?z360 ?z361⟩⟩, ⟨⟨_, _, ⟨?z362, ?z363, ?z364⟩, L2.fun_mk ?z365 ?z366 ?z367⟩⟩, ⟨⟨_, _, ⟨?z368, ?z369, ?z370⟩, L2.fun_mk ?z371 ?z372 ?z373⟩⟩, ⟨⟨_, _, ⟨?z374, ?z375, ?z376⟩, L2.fun_mk ?z377 ?z378 ?z379⟩⟩, ⟨⟨_, _, ⟨?z380, ?z381, ?z382⟩, L2.fun_mk ?z383 ?z384 ?z385⟩⟩, ⟨⟨_, _, ⟨?z386, ?z387, ?z388⟩, L2.fun_mk ?z389 ?z390 ?z391⟩⟩, ⟨⟨_, _, ⟨?z392, ?z393, ?z394⟩, L2.fun_mk ?z395 ?z396 ?z397⟩⟩, ⟨⟨_, _, ⟨?z398, ?z399, ?z400⟩, L2.fun_mk ?z401 ?z402 ?z403⟩⟩, ?z404, ?z405, ?z406, ?z408, ⟨⟨_, _, ⟨?z409, ?z410, ?z411⟩, L2.fun_mk ?z412 ?z413 ?z414⟩⟩, ⟨⟨_, _, ⟨?z415, ?z416, ?z417⟩, L2.fun_mk ?z418 ?z419 ?z420⟩⟩, ⟨⟨_, _, ⟨?z421, ?z422, ?z423⟩, L2.fun_mk ?z424 ?z425 ?z426⟩⟩, ⟨⟨_, _, ⟨?z427, ?z428, ?z429⟩, L2.fun_mk ?z430 ?z431 ?z432⟩⟩, ⟨⟨_, _, ⟨?z433, ?z434, ?z435⟩, L2.fun_mk ?z436 ?z437 ?z438, ?z439⟩, ?z440⟩, ⟨⟨_, _, ⟨?z441, ?z442, ?z443⟩, L2.fun_mk ?z444 ?z445 ?z446⟩⟩, ⟨⟨_, _, ⟨?z447, ?z448, ?z449⟩, L2.fun_mk ?z450 ?z451 ?z452⟩⟩, ⟨⟨_, _, ⟨?z453, ?z454, ?z455⟩, L2.fun_mk ?z456 ?z457 ?z458⟩⟩, ⟨⟨_, _, ⟨?z459, ?z460, ?z461⟩, L2.fun_mk ?z462 ?z463 ?z464⟩⟩, ⟨⟨_, _, ⟨?z465, ?z466, ?z467⟩, L2.fun_mk ?z468 ?z469 ?z470⟩⟩, ⟨⟨_, _, ⟨?z471, ?z472, ?z473⟩, L2.fun_mk ?z474 ?z475 ?z476⟩⟩, ?z477, ?z478, ?z479, ?z480, ?z481, ?z482, ?z483, ?z484, ?z485, ?z486, ⟨⟨_, _, ?z487, ?z488, ?z489, L2.fun_mk ?z490 ?z491 ?z492⟩⟩, ⟨⟨_, _, ?z493, ?z494, ?z495, L2.fun_mk ?z496 ?z497 ?z498⟩⟩⟩⟩
      (case z1 => k_is)
      (case z2 => k_is)
      (case z3 => k_is)
      (case z4 => k_is)
      (case z5 => k_is)
      (case z6 => k_is)
      (case z7 => k_is)
      (case z8 => k_is)
      (case z9 => k_is)
      (case z10 => k_is)
      (case z11 => k_is)
      (case z12 => k_is)
      (case z13 => k_is)
      (case z14 => k_is)
      (case z15 => k_is)
      (case z16 => k_is)
      (case z17 => k_is)
      (case z18 => k_is)
      (case z19 => k_is)
      (case z20 => k_is)
      (case z21 => k_is)
      (case z22 => k_is)
      (case z23 => k_is)
      (case z24 => k_is)
      (case z25 => k_is)
      (case z26 => k_is)
      (case z27 => k_is)
      (case z28 => k_is)
      (case z29 => k_is)
      (case z30 => k_is)
      (case z31 => k_is)
      (case z32 => k_is)
      (case z33 => k_is)
      (case z34 => k_is)
      (case z35 => k_is)
      (case z36 => k_is)
      (case z37 => k_exc)
      (case z38 => k_is)
      (case z39 => k_exc)
      (case z40 => k_is)
      (case z41 => k_exc)
      (case z42 => k_is)
      (case z43 => k_exc)
      (case z44 => k_is)
      (case z45 => k_is)
      (case z46 => k_is)
      (case z47 => k_is)
      (case z48 => k_is)
      (case z49 => k_is)
      (case z50 => k_is)
      (case z51 => k_is)
      (case z52 => kernel_rfl)
      (case z53 => k_is)
      (case z54 => k_is)
      (case z55 => k_is)
      (case z56 => kernel_rfl)
      (case z57 => k_is)
      (case z58 => k_is)
      (case z59 => k_is)
      (case z60 => k_is)
      (case z61 => kernel_rfl)
      (case z62 => k_is)
      (case z63 => k_is)
      (case z64 => k_is)
      (case z65 => k_is)
      (case z66 => k_is)
      (case z67 => k_is)
      (case z122 => k_is)
      (case z123 => k_is)
      (case z124 => k_is)
      (case z125 => k_is)
      (case z126 => k_is)
      (case z127 => k_is)
      (case z128 => k_is)
      (case z129 => kit_is)
      (case z130 => kit_is)
      (case z131 => kit_is)
      (case z132 => kit_is)
      (case z133 => kit_is)
      (case z134 => kit_is)
      (case z135 => kit_is)
      (case z136 => kit_is)
      (case z137 => kit_is)
      (case z138 => kit_is)
      (case z139 => kit_is)
      (case z143 => kts_exm)
      (case z144 => (unfold L2.NoAttr; k_is))
      (case z145 => (unfold L2.NoAttr; k_is))
      (case z146 => (unfold L2.NoAttr; k_is))
      (case z149 => k_is)
      (case z150 => k_is)
      (case z151 => k_is)
      (case z152 => k_is)
      (case z153 => k_is)
      (case z154 => k_is)
      (case z155 => k_is)
      (case z156 => k_is)
      (case z157 => k_is)
      (case z158 => k_is)
      (case z159 => k_is)
      (case z160 => k_is)
      (case z161 => k_is)
      (case z162 => k_is)
      (case z163 => k_is)
      (case z164 => k_is)
      (case z165 => k_is)
      (case z166 => k_is)
      (case z167 => k_is)
      (case z168 => k_is)
      (case z169 => k_is)
      (case z170 => k_is)
      (case z171 => k_is)
      (case z172 => k_is)
      (case z173 => k_is)
      (case z174 => k_is)
      (case z175 => k_is)
      (case z176 => k_is)
      (case z177 => k_is)
      (case z178 => k_is)
      (case z179 => k_is)
      (case z180 => k_is)
      (case z181 => k_is)
      (case z182 => k_is)
      (case z183 => k_is)
      (case z184 => k_is)
      (case z185 => k_is)
      (case z186 => k_is)
      (case z187 => k_is)
      (case z188 => k_is)
      (case z189 => k_is)
      (case z190 => k_is)
      (case z191 => k_is)
      (case z192 => k_is)
      (case z193 => k_is)
      (case z194 => k_is)
      (case z195 => k_is)
      (case z196 => k_is)
      (case z197 => k_is)
      (case z198 => k_is)
      (case z199 => k_is)
      (case z200 => k_is)
      (case z201 => k_is)
      (case z202 => k_is)
      (case z203 => k_is)
      (case z204 => k_is)
      (case z205 => k_is)
      (case z206 => k_is)
      (case z207 => k_is)
      (case z208 => k_is)
      (case z209 => (unfold L2.NoAttr; k_is))
      (case z210 => (unfold L2.NoAttr; k_is))
      (case z211 => (unfold L2.NoAttr; k_is))
      (case z214 => k_is)
      (case z215 => k_is)
      (case z216 => k_is)
      (case z217 => k_is)
      (case z218 => k_is)
      (case z219 => k_is)
      (case z220 => k_is)
      (case z221 => k_is)
      (case z222 => k_is)
      (case z223 => k_is)
      (case z224 => k_is)
      (case z225 => k_is)
      (case z226 => k_is)
      (case z227 => k_is)
      (case z228 => k_is)
      (case z229 => k_is)
      (case z230 => k_is)
      (case z231 => k_is)
      (case z232 => k_is)
      (case z233 => k_is)
      (case z234 => k_is)
      (case z235 => k_is)
      (case z236 => k_is)
      (case z237 => k_is)
      (case z238 => k_is)
      (case z239 => k_is)
      (case z240 => k_is)
      (case z241 => k_is)
      (case z242 => k_is)
      (case z243 => k_is)
      (case z244 => k_is)
      (case z245 => k_is)
      (case z246 => k_is)
      (case z247 => k_is)
      (case z248 => k_is)
      (case z249 => k_is)
      (case z250 => k_is)
      (case z251 => k_is)
      (case z252 => k_is)
      (case z253 => k_is)
      (case z254 => k_is)
      (case z255 => k_is)
      (case z256 => k_is)
      (case z257 => k_is)
      (case z258 => k_is)
      (case z259 => k_is)
      (case z260 => k_is)
      (case z261 => k_is)
      (case z262 => k_is)
      (case z263 => k_is)
      (case z264 => k_is)
      (case z265 => k_is)
      (case z266 => k_is)
      (case z267 => k_is)
      (case z268 => k_is)
      (case z269 => k_is)
      (case z270 => k_is)
      (case z271 => k_is)
      (case z272 => k_is)
      (case z273 => k_is)
      (case z274 => (unfold L2.NoAttr; k_is))
      (case z275 => (unfold L2.NoAttr; k_is))
      (case z276 => (unfold L2.NoAttr; k_is))
      (case z277 => (unfold L2.NoAttr; k_is))
      (case z279 => k_is)
      (case z280 => k_is)
      (case z281 => k_is)
      (case z282 => k_is)
      (case z283 => k_is)
      (case z284 => k_is)
      (case z285 => k_is)
      (case z286 => k_is)
      (case z287 => k_is)
      (case z288 => k_is)
      (case z289 => k_is)
      (case z290 => k_is)
      (case z291 => k_is)
      (case z292 => k_is)
      (case z293 => k_is)
      (case z294 => k_is)
      (case z295 => k_is)
      (case z296 => k_is)
      (case z297 => k_is)
      (case z298 => k_is)
      (case z299 => k_is)
      (case z300 => k_is)
      (case z301 => k_is)
      (case z302 => k_is)
      (case z303 => k_is)
      (case z304 => k_is)
      (case z305 => k_is)
      (case z306 => k_is)
      (case z307 => k_is)
      (case z308 => k_is)
      (case z309 => k_is)
      (case z310 => k_is)
      (case z311 => k_is)
      (case z312 => k_is)
      (case z313 => k_is)
      (case z314 => k_is)
      (case z315 => k_is)
      (case z316 => k_is)
      (case z317 => k_is)
      (case z318 => k_is)
      (case z319 => k_is)
      (case z320 => k_is)
      (case z321 => k_is)
      (case z322 => k_is)
      (case z323 => k_is)
      (case z324 => k_is)
      (case z325 => k_is)
      (case z326 => k_is)
      (case z327 => k_is)
      (case z328 => k_is)
      (case z329 => k_is)
      (case z330 => k_is)
      (case z331 => k_is)
      (case z332 => k_is)
      (case z333 => k_is)
      (case z334 => k_is)
      (case z335 => k_is)
      (case z336 => k_is)
      (case z337 => k_is)
      (case z338 => k_is)
      (case z339 => (unfold L2.NoAttr; k_is))
      (case z340 => (unfold L2.NoAttr; k_is))
      (case z341 => (unfold L2.NoAttr; k_is))
      (case z344 => k_is)
      (case z345 => k_is)
      (case z346 => k_is)
      (case z347 => k_is)
      (case z348 => k_is)
      (case z349 => k_is)
      (case z350 => k_is)
      (case z351 => k_is)
      (case z352 => k_is)
      (case z353 => k_is)
      (case z354 => k_is)
      (case z355 => k_is)
      (case z356 => k_is)
      (case z357 => k_is)
      (case z358 => k_is)
      (case z359 => k_is)
      (case z360 => k_is)
      (case z361 => k_is)
      (case z362 => k_is)
      (case z363 => k_is)
      (case z364 => k_is)
      (case z365 => k_is)
      (case z366 => k_is)
      (case z367 => k_is)
      (case z368 => k_is)
      (case z369 => k_is)
      (case z370 => k_is)
      (case z371 => k_is)
      (case z372 => k_is)
      (case z373 => k_is)
      (case z374 => k_is)
      (case z375 => k_is)
      (case z376 => k_is)
      (case z377 => k_is)
      (case z378 => k_is)
      (case z379 => k_is)
      (case z380 => k_is)
      (case z381 => k_is)
      (case z382 => k_is)
      (case z383 => k_is)
      (case z384 => k_is)
      (case z385 => k_is)
      (case z386 => k_is)
      (case z387 => k_is)
      (case z388 => k_is)
      (case z389 => k_is)
      (case z390 => k_is)
      (case z391 => k_is)
      (case z392 => k_is)
      (case z393 => k_is)
      (case z394 => k_is)
      (case z395 => k_is)
      (case z396 => k_is)
      (case z397 => k_is)
      (case z398 => k_is)
      (case z399 => k_is)
      (case z400 => k_is)
      (case z401 => k_is)
      (case z402 => k_is)
      (case z403 => k_is)
      (case z404 => (unfold L2.NoAttr; k_is))
      (case z405 => (unfold L2.NoAttr; k_is))
      (case z406 => (unfold L2.NoAttr; k_is))
      (case z408 => (unfold L2.NoAttr; k_is))
      (case z409 => k_is)
      (case z410 => k_is)
      (case z411 => k_is)
      (case z412 => k_is)
      (case z413 => k_is)
      (case z414 => k_is)
      (case z415 => k_is)
      (case z416 => k_is)
      (case z417 => k_is)
      (case z418 => k_is)
      (case z419 => k_is)
      (case z420 => k_is)
      (case z421 => k_is)
      (case z422 => k_is)
      (case z423 => k_is)
      (case z424 => k_is)
      (case z425 => k_is)
      (case z426 => k_is)
      (case z427 => k_is)
      (case z428 => k_is)
      (case z429 => k_is)
      (case z430 => k_is)
      (case z431 => k_is)
      (case z432 => k_is)
      (case z433 => k_is)
      (case z434 => k_is)
      (case z435 => k_is)
      (case z436 => k_is)
      (case z437 => k_is)
      (case z438 => k_is)
      (case z439 => exact rfl)
      (case z440 => kernel_rfl)
      (case z441 => k_is)
      (case z442 => k_is)
      (case z443 => k_is)
      (case z444 => k_is)
      (case z445 => k_is)
      (case z446 => k_is)
      (case z447 => k_is)
      (case z448 => k_is)
      (case z449 => k_is)
      (case z450 => k_is)
      (case z451 => k_is)
      (case z452 => k_is)
      (case z453 => k_is)
      (case z454 => k_is)
      (case z455 => k_is)
      (case z456 => k_is)
      (case z457 => k_is)
      (case z458 => k_is)
      (case z459 => k_is)
      (case z460 => k_is)
      (case z461 => k_is)
      (case z462 => k_is)
      (case z463 => k_is)
      (case z464 => k_is)
      (case z465 => k_is)
      (case z466 => k_is)
      (case z467 => k_is)
      (case z468 => k_is)
      (case z469 => k_is)
      (case z470 => k_is)
      (case z471 => k_is)
      (case z472 => k_is)
      (case z473 => k_is)
      (case z474 => k_is)
      (case z475 => k_is)
      (case z476 => k_is)
      (case z477 => decide)
      (case z478 => decide)
      (case z479 => decide)
      (case z480 => decide)
      (case z481 => decide)
      (case z482 => decide)
      (case z483 => decide)
      (case z484 => decide)
      (case z485 => decide)
      (case z486 => decide)
      (case z487 => k_is)
      (case z488 => k_is)
      (case z489 => k_is)
      (case z490 => k_is)
      (case z491 => k_is)
      (case z492 => k_is)
      (case z493 => k_is)
      (case z494 => k_is)
      (case z495 => k_is)
      (case z496 => k_is)
      (case z497 => k_is)
      (case z498 => k_is)
    have d14 : L2.DefAt (L2.KOf KX) "shared_factor" (Mw.top 14) := by dsimp only [L2.KOf]; refine' L2.defAt ?a ?l ?c ?k; (case a => k_is); (case l => k_is); (case c => k_is); (case k => k_is)
    have d15 : L2.DefAt (L2.KOf KX) "part" (Mw.top 15) := by dsimp only [L2.KOf]; refine' L2.defAt ?a ?l ?c ?k; (case a => k_is); (case l => k_is); (case c => k_is); (case k => k_is)
    have d16 : L2.DefAt (L2.KOf KX) "by" (Mw.top 16) := by dsimp only [L2.KOf]; refine' L2.defAt ?a ?l ?c ?k; (case a => k_is); (case l => k_is); (case c => k_is); (case k => k_is)
    have d18 : L2.DefAt (L2.KOf KX) "product" (Mw.top 18) := by dsimp only [L2.KOf]; refine' L2.defAt ?a ?l ?c ?k; (case a => k_is); (case l => k_is); (case c => k_is); (case k => k_is)
    have d19 : L2.DefAt (L2.KOf KX) "lifted" (Mw.top 19) := by dsimp only [L2.KOf]; refine' L2.defAt ?a ?l ?c ?k; (case a => k_is); (case l => k_is); (case c => k_is); (case k => k_is)
    have d20 : L2.DefAt (L2.KOf KX) "told_by" (Mw.top 20) := by dsimp only [L2.KOf]; refine' L2.defAt ?a ?l ?c ?k; (case a => k_is); (case l => k_is); (case c => k_is); (case k => k_is)
    have d21 : L2.DefAt (L2.KOf KX) "turned" (Mw.top 21) := by dsimp only [L2.KOf]; refine' L2.defAt ?a ?l ?c ?k; (case a => k_is); (case l => k_is); (case c => k_is); (case k => k_is)
    have d23 : L2.DefAt (L2.KOf KX) "replay" (Mw.top 23) := by dsimp only [L2.KOf]; refine' L2.defAt ?a ?l ?c ?k; (case a => k_is); (case l => k_is); (case c => k_is); (case k => k_is)
    have d25 : L2.DefAt (L2.KOf KX) "moved" (Mw.top 25) := by dsimp only [L2.KOf]; refine' L2.defAt ?a ?l ?c ?k; (case a => k_is); (case l => k_is); (case c => k_is); (case k => k_is)
    have d32 : L2.DefAt (L2.KOf KX) "_law_cell_at" (Mw.top 32) := by dsimp only [L2.KOf]; refine' L2.defAt ?a ?l ?c ?k; (case a => k_is); (case l => k_is); (case c => k_is); (case k => k_is)
    have d33 : L2.DefAt (L2.KOf KX) "_law_mixed" (Mw.top 33) := by dsimp only [L2.KOf]; refine' L2.defAt ?a ?l ?c ?k; (case a => k_is); (case l => k_is); (case c => k_is); (case k => k_is)
    have d34 : L2.DefAt (L2.KOf KX) "_law_drawn" (Mw.top 34) := by dsimp only [L2.KOf]; refine' L2.defAt ?a ?l ?c ?k; (case a => k_is); (case l => k_is); (case c => k_is); (case k => k_is)
    have d35 : L2.DefAt (L2.KOf KX) "_law_points" (Mw.top 35) := by dsimp only [L2.KOf]; refine' L2.defAt ?a ?l ?c ?k; (case a => k_is); (case l => k_is); (case c => k_is); (case k => k_is)
    have d36 : L2.DefAt (L2.KOf KX) "_law_is" (Mw.top 36) := by dsimp only [L2.KOf]; refine' L2.defAt ?a ?l ?c ?k; (case a => k_is); (case l => k_is); (case c => k_is); (case k => k_is)
    have d37 : L2.DefAt (L2.KOf KX) "_law_made" (Mw.top 37) := by dsimp only [L2.KOf]; refine' L2.defAt ?a ?l ?c ?k; (case a => k_is); (case l => k_is); (case c => k_is); (case k => k_is)
    have d38 : L2.DefAt (L2.KOf KX) "_law_rows" (Mw.top 38) := by dsimp only [L2.KOf]; refine' L2.defAt ?a ?l ?c ?k; (case a => k_is); (case l => k_is); (case c => k_is); (case k => k_is)
    have d39 : L2.DefAt (L2.KOf KX) "_law_walk" (Mw.top 39) := by dsimp only [L2.KOf]; refine' L2.defAt ?a ?l ?c ?k; (case a => k_is); (case l => k_is); (case c => k_is); (case k => k_is)
    have d40 : L2.DefAt (L2.KOf KX) "_law_spoiled" (Mw.top 40) := by dsimp only [L2.KOf]; refine' L2.defAt ?a ?l ?c ?k; (case a => k_is); (case l => k_is); (case c => k_is); (case k => k_is)
    have d41 : L2.DefAt (L2.KOf KX) "_law_first_wrong" (Mw.top 41) := by dsimp only [L2.KOf]; refine' L2.defAt ?a ?l ?c ?k; (case a => k_is); (case l => k_is); (case c => k_is); (case k => k_is)
    have d42 : L2.DefAt (L2.KOf KX) "_law_wrong_book" (Mw.top 42) := by dsimp only [L2.KOf]; refine' L2.defAt ?a ?l ?c ?k; (case a => k_is); (case l => k_is); (case c => k_is); (case k => k_is)
    have d43 : L2.DefAt (L2.KOf KX) "_law_replayed" (Mw.top 43) := by dsimp only [L2.KOf]; refine' L2.defAt ?a ?l ?c ?k; (case a => k_is); (case l => k_is); (case c => k_is); (case k => k_is)
    have d44 : L2.DefAt (L2.KOf KX) "law" (Mw.top 44) := by dsimp only [L2.KOf]; refine' L2.defAt ?a ?l ?c ?k; (case a => k_is); (case l => k_is); (case c => k_is); (case k => k_is)
    refine ⟨⟨_, PR.m_SidesHand_mend.hd, ?lk⟩, L2.lawT_of (L2.TbL · 427) (fun H h => Or.inl h) ?_⟩
    (case lk => first | kernel_rfl | k_is)
    refine d44.lawT KX G hmg (fun _ _ _ _ _ _ => L2.len1 fun _ => rfl) fun f fd base F kb nb BM => ?_
    have c14 := d14.cal (P := PySem.Challenge.rw_mendweights_k14_books_replayed.prog) (w := w) (base := base) (ps := ["one", "other"]) KX G (fun _ _ _ _ _ _ => L2.len2 fun _ _ => rfl) fun f fd F => Mw.ok_shared_factor F T 
    have c15 := d15.calX (P := PySem.Challenge.rw_mendweights_k14_books_replayed.prog) (w := w) (base := base) (ps := ["top", "bottom"]) KX G (fun _ _ _ _ _ _ => L2.len2 fun _ _ => rfl) fun f fd F => Mw.ok_part F T PR.x_NoFraction c14
    have c16 := d16.calX (P := PySem.Challenge.rw_mendweights_k14_books_replayed.prog) (w := w) (base := base) (ps := ["one", "other"]) KX G (fun _ _ _ _ _ _ => L2.len2 fun _ _ => rfl) fun f fd F => Mw.ok_by F T c15
    have c18 := d18.cal (P := PySem.Challenge.rw_mendweights_k14_books_replayed.prog) (w := w) (base := base) (ps := ["one", "other"]) KX G (fun _ _ _ _ _ _ => L2.len2 fun _ _ => rfl) fun f fd F => Mw.ok_product F T 
    have c19 := d19.cal (P := PySem.Challenge.rw_mendweights_k14_books_replayed.prog) (w := w) (base := base) (ps := ["point"]) KX G (fun _ _ _ _ _ _ => L2.len1 fun _ => rfl) fun f fd F => Mw.ok_lifted F T 
    have c20 := d20.cal (P := PySem.Challenge.rw_mendweights_k14_books_replayed.prog) (w := w) (base := base) (ps := ["weights", "point"]) KX G (fun _ _ _ _ _ _ => L2.len2 fun _ _ => rfl) fun f fd F => Mw.ok_told_by F T c18 c19
    have c21 := d21.cal (P := PySem.Challenge.rw_mendweights_k14_books_replayed.prog) (w := w) (base := base) (ps := ["number", "side"]) KX G (fun _ _ _ _ _ _ => L2.len2 fun _ _ => rfl) fun f fd F => Mw.ok_turned F T 
    have c25 := d25.cal (P := PySem.Challenge.rw_mendweights_k14_books_replayed.prog) (w := w) (base := base) (ps := ["weights", "point", "times"]) KX G (fun _ _ _ _ _ _ => L2.len3 fun _ _ _ => rfl) fun f fd F => Mw.ok_moved F T c19
    obtain ⟨m_put, m_weights, m_mistakes, m_would_err, HT, n_Hand, n_PlainHand, n_MarginHand, n_HalvingHand, n_SidesHand⟩ := Mw.hands (P := PySem.Challenge.rw_mendweights_k14_books_replayed.prog) (w := w) (base := base) PR T BM c20 c21 c25 c16
    have m_wrong := Mw.wrong_book (P := PySem.Challenge.rw_mendweights_k14_books_replayed.prog) (w := w) (base := base) PR T
    have c23 := d23.calX (P := PySem.Challenge.rw_mendweights_k14_books_replayed.prog) (w := w) (base := base) (ps := ["hand", "rows", "book"]) KX G (fun _ _ _ _ _ _ => L2.len3 fun _ _ _ => rfl) fun f fd F => Mw.ok_replay F T m_put m_wrong
    have c32 := d32.cal (P := PySem.Challenge.rw_mendweights_k14_books_replayed.prog) (w := w) (base := base) (ps := ["_law_script", "_law_k"]) KX G (fun _ _ _ _ _ _ => L2.len2 fun _ _ => rfl) fun f fd F => Mw.ok__law_cell_at F T 
    have c33 := d33.cal (P := PySem.Challenge.rw_mendweights_k14_books_replayed.prog) (w := w) (base := base) (ps := ["_law_script", "_law_k"]) KX G (fun _ _ _ _ _ _ => L2.len2 fun _ _ => rfl) fun f fd F => Mw.ok__law_mixed F T c32
    have c34 := d34.cal (P := PySem.Challenge.rw_mendweights_k14_books_replayed.prog) (w := w) (base := base) (ps := ["_law_script", "_law_tops"]) KX G (fun _ _ _ _ _ _ => L2.len2 fun _ _ => rfl) fun f fd F => Mw.ok__law_drawn F T c32 c33
    have c35 := d35.cal (P := PySem.Challenge.rw_mendweights_k14_books_replayed.prog) (w := w) (base := base) (ps := ["_law_drawn_here", "_law_many", "_law_reach", "_law_rows_here"]) KX G (fun _ _ _ _ _ _ => L2.len4 fun _ _ _ _ => rfl) fun f fd F => Mw.ok__law_points F T 
    have c36 := d36.cal (P := PySem.Challenge.rw_mendweights_k14_books_replayed.prog) (w := w) (base := base) (ps := ["_law_found", "_law_due"]) KX G (fun _ _ _ _ _ _ => L2.len2 fun _ _ => rfl) fun f fd F => Mw.ok__law_is F T 
    have c37 := d37.cal (P := PySem.Challenge.rw_mendweights_k14_books_replayed.prog) (w := w) (base := base) (ps := ["_law_kind", "_law_many", "_law_sides"]) KX G (fun _ _ _ _ _ _ => L2.len3 fun _ _ _ => rfl) fun f fd F => Mw.ok__law_made F T n_Hand n_PlainHand n_MarginHand n_HalvingHand n_SidesHand
    have c38 := d38.cal (P := PySem.Challenge.rw_mendweights_k14_books_replayed.prog) (w := w) (base := base) (ps := ["_law_script", "_law_head", "_law_kind", "_law_many", "_law_sides"]) KX G (fun _ _ _ _ _ _ => L2.len5 fun _ _ _ _ _ => rfl) fun f fd F => Mw.ok__law_rows F T c34 c35
    have c39 := d39.cal (P := PySem.Challenge.rw_mendweights_k14_books_replayed.prog) (w := w) (base := base) (ps := ["_law_hand", "_law_rows_here", "_law_most"]) KX G (fun _ _ _ _ _ _ => L2.len3 fun _ _ _ => rfl) fun f fd F => Mw.ok__law_walk F T m_put
    have c40 := d40.cal (P := PySem.Challenge.rw_mendweights_k14_books_replayed.prog) (w := w) (base := base) (ps := ["_law_book", "_law_rows_here", "_law_number"]) KX G (fun _ _ _ _ _ _ => L2.len3 fun _ _ _ => rfl) fun f fd F => Mw.ok__law_spoiled F T 
    have c41 := d41.cal (P := PySem.Challenge.rw_mendweights_k14_books_replayed.prog) (w := w) (base := base) (ps := ["_law_hand", "_law_rows_here", "_law_book"]) KX G (fun _ _ _ _ _ _ => L2.len3 fun _ _ _ => rfl) fun f fd F => Mw.ok__law_first_wrong F T m_put
    have c42 := d42.cal (P := PySem.Challenge.rw_mendweights_k14_books_replayed.prog) (w := w) (base := base) (ps := ["_law_caught", "_law_place"]) KX G (fun _ _ _ _ _ _ => L2.len2 fun _ _ => rfl) fun f fd F => Mw.ok__law_wrong_book F T PR c36
    have c43 := d43.cal (P := PySem.Challenge.rw_mendweights_k14_books_replayed.prog) (w := w) (base := base) (ps := ["_law_hand", "_law_other", "_law_rows_here", "_law_book"]) KX G (fun _ _ _ _ _ _ => L2.len4 fun _ _ _ _ => rfl) fun f fd F => Mw.ok__law_replayed F T PR c41 c23 c36 c42 m_weights m_mistakes
    exact Mw.ok_law F T c32 c33 c38 c37 c39 c40 c43 m_weights m_mistakes
