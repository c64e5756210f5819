import PyProof.Rows.All
import Wide.All
import OpenK.AllK
import Wide.FinOn
import Lean
import PyProof.EqAt
import PyProof.EqKinds
import PyProof.TupleCall
import PyProof.StationsW
import PyProof.NeKinds
import OpenK.KOwn
import OpenK.KMake
import PyProof.InstStoreFacts
import OpenK.KGet
import PyProof.ExcArgsOwn
import KE.KIntText
import KE.IntTextLaws
import PyProof.StrWalks
import PyProof.StrCalls2
import PyProof.StrCalls5
import PyProof.StrBlockH
import PyProof.SliceStr2
import PyProof.MeetsStr2
import PyProof.Rows.StrNews2
import PyProof.Rows.StrSplitCount
import PyProof.StrLawsChain
import PyProof.Rows.StrItems
import PyProof.StrLawsIdx
import PySem.Challenge.RW_mendweights_k42_texts_refused
set_option Elab.async false
set_option linter.all false
set_option maxRecDepth 100000
namespace L2
open PySem PySem.Spec PyProof.Rows
abbrev Key := Sum Int Str
def keyIs : Key -> Value -> Bool
  | .inl k, v => Value.isInt k v
  | .inr x, v => Value.isStrOf x v
def keyH (w : World) : Key -> Int
  | .inl k => hashInt k
  | .inr x => hashStr w x
theorem keyIs_shape : ∀ {k : Key} {v : Value}, keyIs k v = true -> (∃ i t, k = Sum.inl i /\ v = Value.int i t) \/ (∃ x t, k = Sum.inr x /\ v = Value.str x t)
  | .inl i, v, h => by
    obtain ⟨t, e⟩ := Value.isInt_shape (k := i) (v := v) h
    exact .inl ⟨i, t, rfl, e⟩
  | .inr x, v, h => by
    obtain ⟨t, e⟩ := Value.isStrOf_shape (x := x) (v := v) h
    exact .inr ⟨x, t, rfl, e⟩
theorem key_ll (a b : Int) : decide ((Sum.inl a : Key) = Sum.inl b) = (a == b) := by
  by_cases e : a = b
  · subst e; simp
  · have h : ¬ (Sum.inl a : Key) = Sum.inl b := fun q => e (Sum.inl.inj q)
    rw [decide_eq_false h]
    exact (beq_eq_false_iff_ne.mpr e).symm
theorem key_rr (a b : Str) : decide ((Sum.inr a : Key) = Sum.inr b) = decide (a = b) := by
  by_cases e : a = b
  · subst e; simp
  · have h : ¬ (Sum.inr a : Key) = Sum.inr b := fun q => e (Sum.inr.inj q)
    rw [decide_eq_false h, decide_eq_false e]
theorem key_lr (a : Int) (b : Str) : decide ((Sum.inl a : Key) = Sum.inr b) = false := decide_eq_false (fun q => nomatch q)
theorem key_rl (a : Str) (b : Int) : decide ((Sum.inr a : Key) = Sum.inl b) = false := decide_eq_false (fun q => nomatch q)
def mixKind (prog : Program) (w : World) : PySem.KeyKind prog w Key where
  is := keyIs
  hash := keyH w
  inj := fun v a b ha hb => by
    rcases keyIs_shape ha with ⟨i, t, rfl, rfl⟩ | ⟨x, t, rfl, rfl⟩
    · rcases keyIs_shape hb with ⟨j, u, rfl, e⟩ | ⟨y, u, rfl, e⟩
      · injection e with e1 _; rw [e1]
      · exact nomatch e
    · rcases keyIs_shape hb with ⟨j, u, rfl, e⟩ | ⟨y, u, rfl, e⟩
      · exact nomatch e
      · injection e with e1 _; rw [e1]
  byValue := fun k v h => by
    rcases keyIs_shape h with ⟨i, t, rfl, rfl⟩ | ⟨x, t, rfl, rfl⟩ <;> rfl
  pyHash := fun hv h => by
    rcases keyIs_shape hv with ⟨i, t, rfl, rfl⟩ | ⟨x, t, rfl, rfl⟩
    · exact wpAny_pyHash_int h
    · exact wpAny_pyHash_str h
  eqBool := fun hu hv h => by
    rcases keyIs_shape hu with ⟨i, t, rfl, rfl⟩ | ⟨x, t, rfl, rfl⟩
    · rcases keyIs_shape hv with ⟨j, u, rfl, rfl⟩ | ⟨y, u, rfl, rfl⟩
      · rw [key_ll] at h; exact wpAny_eqBool_int h
      · rw [key_lr] at h; exact SeqAt.EqAt.int_str i t y u _ _ _ _ h
    · rcases keyIs_shape hv with ⟨j, u, rfl, rfl⟩ | ⟨y, u, rfl, rfl⟩
      · rw [key_rl] at h; exact SeqAt.EqAt.str_int x t j u _ _ _ _ h
      · rw [key_rr] at h; exact wpAny_eqBool_str h
  «strs» := fun k x t v h => by
    rcases keyIs_shape h with ⟨i, u, rfl, e⟩ | ⟨y, u, rfl, e⟩
    · exact nomatch e
    · injection e with e1 _
      subst e1
      cases v <;> rfl
end L2
namespace L2
open PySem PySem.Spec PyProof.Rows
inductive V where
  | non | bl (b : Bool) | int (i : Int) | str (x : Str) | byt (b : Array UInt8) | flt (b : UInt64) | ref (a : Addr) | ty (n : String)
  deriving DecidableEq
def RelV : V -> Value -> Prop
  | .non, u => u = Value.none
  | .bl b, u => u = Value.bool b
  | .int i, u => ∃ t, u = Value.int i t
  | .str x, u => ∃ t, u = Value.str x t
  | .byt b, u => ∃ t, u = Value.bytes b t
  | .flt b, u => ∃ t, u = Value.float b t
  | .ref a, u => u = Value.ref a
  | .ty n, u => u = Value.type n
abbrev Vals : List V -> List Value -> Prop := Paired RelV
theorem Vals.length {xs : List V} {us : List Value} (r : Vals xs us) : xs.length = us.length := Paired.length r
theorem Vals.get : ∀ {xs : List V} {us : List Value} {i : Nat} {x : V}, Vals xs us -> xs[i]? = some x -> ∃ u, us[i]? = some u /\ RelV x u
  | _, _, _, _, .nil, e => by simp at e
  | _, _, 0, _, .cons r _, e => by simp at e; subst e; exact ⟨_, rfl, r⟩
  | _, _, i + 1, x, .cons _ t, e => by
    obtain ⟨u, h1, h2⟩ := Vals.get (i := i) (x := x) t (by simpa using e)
    exact ⟨u, by simpa using h1, h2⟩
theorem Vals.set {x : V} {u : Value} (r : RelV x u) : ∀ {xs : List V} {us : List Value} (i : Nat), Vals xs us -> Vals (xs.set i x) (us.set i u)
  | _, _, _, .nil => .nil
  | _, _, 0, .cons _ t => .cons r t
  | _, _, i + 1, .cons q t => .cons q (Vals.set r i t)
theorem Vals.append : ∀ {xs ys : List V} {us ws : List Value}, Vals xs us -> Vals ys ws -> Vals (xs ++ ys) (us ++ ws)
  | _, _, _, _, .nil, s => s
  | _, _, _, _, .cons r t, s => .cons r (Vals.append t s)
theorem Vals.take : ∀ {xs : List V} {us : List Value} (n : Nat), Vals xs us -> Vals (xs.take n) (us.take n)
  | _, _, 0, _ => .nil
  | _, _, _ + 1, .nil => .nil
  | _, _, n + 1, .cons r t => .cons r (Vals.take n t)
theorem Vals.drop : ∀ {xs : List V} {us : List Value} (n : Nat), Vals xs us -> Vals (xs.drop n) (us.drop n)
  | _, _, 0, r => r
  | _, _, _ + 1, .nil => .nil
  | _, _, n + 1, .cons _ t => Vals.drop n t
def RelO : Option V -> Option Value -> Prop
  | some v, some u => RelV v u
  | none, none => True
  | _, _ => False
def KV {κ : Type} : List (κ × V) -> List (κ × Value) -> Prop := Paired fun (p : κ × V) (q : κ × Value) => p.1 = q.1 /\ RelV p.2 q.2
def kV : Key -> V
  | .inl i => .int i
  | .inr x => .str x
inductive HO where
  /-- a list -/
  | lst (xs : List V)
  /-- a tuple (never changes) -/
  | tup (xs : List V)
  /-- a dict whose keys are ints and texts; one whose keys are tuples of ints and texts (the empty one is both) -/
  | dK (kvs : List (Key × V)) | dT (kvs : List (List Key × V))
  /-- a set of ints: its members, its size -/
  | set (S : Int -> Bool) (n : Nat)
  /-- an instance of the class at C, its dict at dx, its attributes -/
  | ins (C dx : Addr) (fs : List (Str × V))
  /-- the dict of the instance at x -/
  | own (x : Addr)
  /-- the dict of an exception -/
  | xd (fs : List (Str × V))
  /-- a bound method, f of x -/
  | met (f x : Addr)
  /-- a range object lo, lo + 1, .. below hi -/
  | rng (lo hi : Int)
  /-- a thing that is known to the object (the script; a dict while a loop walks it): read, never written while it is so -/
  | frz (o : Obj) (u : HO)
  /-- a code object's table -/
  | tbl (ps : Array Value)
  /-- any other thing, by what is true of its one object (a def of one's own: SetO a S n := HO.ext fun h => ..) -/
  | ext (φ : Heap -> Prop)
abbrev Hp := Addr -> Option HO
def upd (H : Hp) (a : Addr) (o : HO) : Hp := fun b => if b = a then some o else H b
theorem upd_same {H : Hp} {a : Addr} {o : HO} : upd H a o a = some o := by unfold upd; rw [if_pos rfl]
theorem upd_ne {H : Hp} {a b : Addr} {o : HO} (h : b ≠ a) : upd H a o b = H b := by unfold upd; rw [if_neg h]
theorem ne_of_none {H : Hp} {a b : Addr} {o : HO} (h : H a = some o) (h' : H b = none) : a ≠ b := by
  intro e; subst e; rw [h] at h'; cases h'
section
variable (P : Program) (w : World)
def ObjOk (H : Hp) (h : Heap) (a : Addr) : HO -> Prop
  | .lst xs => xs.length <= sizeLine /\ ∃ (its : List Value) (n : Nat), Vals xs its /\ h.get? a = some { cls := .type "list", data := .seq its.toArray n }
  | .tup xs => xs.length <= sizeLine /\ ∃ its : List Value, Vals xs its /\ IsTup h a its.toArray
  | .dK kvs => kvs.length <= sizeLine /\ (a == sysModules) = false /\ ∃ vs, KV kvs vs /\ h.DictOf (mixKind P w) a vs
  | .dT kvs => kvs.length <= sizeLine /\ (a == sysModules) = false /\ ∃ xs : List (List Key × Addr × Value),
      Paired (fun (p : List Key × V) (q : List Key × Addr × Value) => p.1 = q.1 /\ H q.2.1 = some (.tup (p.1.map kV)) /\ RelV p.2 q.2.2) kvs xs /\
      ∃ o es ep, h.get? a = some o /\ o.ExactDict /\ o.data = .dict es ep /\ es.toList = xs.map (entryOfKey (tupleKind (mixKind P w))) /\ (xs.map (·.1)).Nodup
  | .set S n => h.SetOf (intKind P w) a S n
  | .ins C dx fs => H dx = some (.own a) /\ fs.length <= 1000 /\ dx ≠ a /\ h.get? a = some (PySem.W.instObj C dx) /\
      ∃ mA, h.Ns1 dx mA /\ (∀ f, RelO (fs.lookup f) (mA f)) /\ PySem.Within mA (fs.map (·.1))
  | .own _ => ∃ o, h.get? a = some o
  | .xd fs => ∃ mA, h.Ns1 a mA /\ ∀ f, RelO (fs.lookup f) (mA f)
  | .rng lo hi => ∃ t u v, h.get? a = some { cls := .type "range", data := .fields #[.int lo t, .int hi u, .int 1 v] }
  | .frz o u => h.get? a = some o /\ ObjOk H h a u
  | .tbl ps => h.get? a = some { cls := .none, data := .fields ps }
  | .met f x => h.get? a = some (PySem.W.methodObj (.ref f) (.ref x))
  | .ext φ => φ h /\ (∃ o, h.get? a = some o) /\ ∀ h1 h2 : Heap, φ h1 -> (∀ o, h1.get? a = some o -> h2.get? a = some o) -> φ h2
def HOk (H : Hp) (h : Heap) : Prop := ∀ a o, H a = some o -> ObjOk P w H h a o
end
section
variable {P : Program} {w : World} {H H' : Hp} {h h' : Heap} {a : Addr} {o : HO}
theorem ObjOk.lt (x : ObjOk P w H h a o) : a < h.objs.size := by
  cases o with
  | lst xs => obtain ⟨_, _, _, _, e⟩ := x; exact Heap.lt_size e
  | tup xs => obtain ⟨_, _, _, p⟩ := x; exact p.lt
  | dK kvs => obtain ⟨_, _, _, _, o, _, _, e, _⟩ := x; exact Heap.lt_size e
  | dT kvs => obtain ⟨_, _, _, _, o, _, _, e, _⟩ := x; exact Heap.lt_size e
  | set S n => obtain ⟨o, _, _, _, e, _⟩ := x; exact Heap.lt_size e
  | ins C dx fs => obtain ⟨_, _, _, e, _⟩ := x; exact Heap.lt_size e
  | own y => obtain ⟨_, e⟩ := x; exact Heap.lt_size e
  | xd fs => obtain ⟨_, ⟨_, _, _, e, _⟩, _⟩ := x; exact Heap.lt_size e
  | rng lo hi => obtain ⟨_, _, _, e⟩ := x; exact Heap.lt_size e
  | frz ob u => obtain ⟨e, _⟩ := x; exact Heap.lt_size e
  | tbl ps => exact Heap.lt_size (show h.get? a = some _ from x)
  | met f y => exact Heap.lt_size (show h.get? a = some _ from x)
  | ext φ => obtain ⟨_, ⟨_, e⟩, _⟩ := x; exact Heap.lt_size e
theorem Paired.mapP {α β : Type} {F G : α -> β -> Prop} : ∀ {l₁ : List α} {l₂ : List β}, Paired F l₁ l₂ -> (∀ a b, F a b -> G a b) -> Paired G l₁ l₂
  | _, _, .nil, _ => .nil
  | _, _, .cons r t, f => .cons (f _ _ r) (Paired.mapP t f)
theorem ObjOk.stay (x : ObjOk P w H h a o) (k : ∀ b u, (b = a \/ H b = some (.own a)) -> h.get? b = some u -> h'.get? b = some u)
    (ho : ∀ b, H b = some (.own a) -> H' b = some (.own a)) (ht : ∀ b xs, H b = some (.tup xs) -> H' b = some (.tup xs)) : ObjOk P w H' h' a o := by
  induction o with
  | lst xs => obtain ⟨z, its, n, r, e⟩ := x; exact ⟨z, its, n, r, k _ _ (.inl rfl) e⟩
  | tup xs => obtain ⟨z, its, r, ob, e, c⟩ := x; exact ⟨z, its, r, ob, k _ _ (.inl rfl) e, c⟩
  | dK kvs => obtain ⟨z, y, vs, r, ob, es, ep, e, c⟩ := x; exact ⟨z, y, vs, r, ob, es, ep, k _ _ (.inl rfl) e, c⟩
  | dT kvs =>
    obtain ⟨z, y, xs, r, ob, es, ep, e, c⟩ := x
    exact ⟨z, y, xs, Paired.mapP r fun p q z => ⟨z.1, ht _ _ z.2.1, z.2.2⟩, ob, es, ep, k _ _ (.inl rfl) e, c⟩
  | set S n => obtain ⟨ob, es, ep, t, e, c⟩ := x; exact ⟨ob, es, ep, t, k _ _ (.inl rfl) e, c⟩
  | ins C dx fs =>
    obtain ⟨d, z, ne, e, mA, ⟨od, es, ep, e2, c⟩, r⟩ := x
    exact ⟨ho _ d, z, ne, k _ _ (.inl rfl) e, mA, ⟨od, es, ep, k _ _ (.inr d) e2, c⟩, r⟩
  | own y => obtain ⟨ob, e⟩ := x; exact ⟨ob, k _ _ (.inl rfl) e⟩
  | xd fs => obtain ⟨mA, ⟨od, es, ep, e, c⟩, r⟩ := x; exact ⟨mA, ⟨od, es, ep, k _ _ (.inl rfl) e, c⟩, r⟩
  | rng lo hi => obtain ⟨t, u, v, e⟩ := x; exact ⟨t, u, v, k _ _ (.inl rfl) e⟩
  | frz ob u ih => obtain ⟨e, q⟩ := x; exact ⟨k _ _ (.inl rfl) e, ih q⟩
  | tbl ps =>
    have e : h.get? a = some { cls := .none, data := .fields ps } := x
    show h'.get? a = some { cls := .none, data := .fields ps }
    exact k a _ (.inl rfl) e
  | met f y =>
    have e : h.get? a = some (PySem.W.methodObj (.ref f) (.ref y)) := x
    show h'.get? a = some (PySem.W.methodObj (.ref f) (.ref y))
    exact k a _ (.inl rfl) e
  | ext φ => obtain ⟨p, ⟨o, e⟩, st⟩ := x; exact ⟨st _ _ p fun o q => k _ _ (.inl rfl) q, ⟨o, k _ _ (.inl rfl) e⟩, st⟩
theorem HOk.lt (x : HOk P w H h) (e : H a = some o) : a < h.objs.size := (x a o e).lt
theorem HOk.fresh (x : HOk P w H h) (e : h.objs.size <= a) : H a = none := by
  cases q : H a with
  | none => rfl
  | some u => exact absurd (Nat.lt_of_lt_of_le (x.lt q) e) (Nat.lt_irrefl _)
theorem HOk.kept (x : HOk P w H h) (k : ∀ b u, h.get? b = some u -> h'.get? b = some u) : HOk P w H h' := fun a o e =>
  (x a o e).stay (fun b u _ q => k b u q) (fun _ q => q) fun _ _ q => q
theorem HOk.laid (x : HOk P w H h) (k : ∀ b u, h.get? b = some u -> h'.get? b = some u) (hp : h.objs.size <= a) (new : ObjOk P w (upd H a o) h' a o) : HOk P w (upd H a o) h' := fun b u e => by
  have hn := x.fresh hp
  by_cases hb : b = a
  · subst hb; rw [upd_same] at e; cases e; exact new
  · rw [upd_ne hb] at e
    exact (x b u e).stay (fun c v _ q => k c v q) (fun c q => by rw [upd_ne (ne_of_none q hn)]; exact q) fun c xs q => by rw [upd_ne (ne_of_none q hn)]; exact q
end
def Rd (H : Hp) (a : Addr) (u : HO) : Prop := H a = some u \/ ∃ o, H a = some (.frz o u)
theorem Rd.ok {P : Program} {w : World} {H : Hp} {h : Heap} {a : Addr} {u : HO} (r : Rd H a u) (x : HOk P w H h) : ObjOk P w H h a u := by
  rcases r with r | ⟨o, r⟩
  · exact x a u r
  · obtain ⟨_, q⟩ := x a _ r
    exact q
def Mut : Option HO -> Prop
  | some (.lst _) => True
  | some (.dK _) => True
  | some (.dT _) => True
  | some (.set _ _) => True
  | some (.ins _ _ _) => True
  | some (.ext _) => True
  | _ => False
section
variable {P : Program} {w : World} {H : Hp} {h h' : Heap} {x e : Addr} {o' : HO}
theorem HOk.write (ok : HOk P w H h) (mu : Mut (H x)) (he : e = x \/ H e = some (.own x)) (k : ∀ b u, b ≠ e -> h.get? b = some u -> h'.get? b = some u) (heo : ∃ u, h'.get? e = some u)
    (new : ObjOk P w (upd H x o') h' x o') : HOk P w (upd H x o') h' := fun b u q => by
  have nown : ∀ c y, H c = some (.own y) -> c ≠ x := fun c y r z => by subst z; rw [r] at mu; exact mu
  have ntup : ∀ c xs, H c = some (.tup xs) -> c ≠ x := fun c xs r z => by subst z; rw [r] at mu; exact mu
  by_cases hb : b = x
  · subst hb; rw [upd_same] at q; cases q; exact new
  · rw [upd_ne hb] at q
    by_cases hbe : b = e
    · have q' : H b = some (.own x) := by
        rcases he with z | z
        · exact absurd (hbe.trans z) hb
        · rw [hbe]; exact z
      rw [q] at q'; cases q'
      obtain ⟨v, hv⟩ := heo
      exact ⟨v, by rw [hbe]; exact hv⟩
    · refine (ok b u q).stay (fun c v hc r => k c v ?_ r) (fun c r => by rw [upd_ne (nown c b r)]; exact r) fun c xs r => by rw [upd_ne (ntup c xs r)]; exact r
      rcases hc with rfl | hc
      · exact hbe
      · rintro rfl
        rcases he with z | z
        · exact nown c b hc z
        · rw [hc] at z; cases z; exact hb rfl
end
structure Un (fs ex : List Addr) (H H' : Hp) (h h' : Heap) : Prop where
  keep : ∀ b o, h.get? b = some o -> H b = none -> b ∉ fs -> b ∉ ex -> h'.get? b = some o
  slot : ∀ b o, h.get? b = some o -> H b = none -> b ∈ fs -> b ∉ ex -> ∃ sl, h'.get? b = some { o with slots := sl }
  free : ∀ b o, h.get? b = some o -> H b = none -> b ∉ ex -> H' b = none
  there : ∀ b o, h.get? b = some o -> b ∉ ex -> ∃ o', h'.get? b = some o'
  tups : ∀ b xs, H b = some (.tup xs) -> H' b = some (.tup xs)
  frzs : ∀ b o u, H b = some (.frz o u) -> H' b = some (.frz o u)
  tbls : ∀ b ps, H b = some (.tbl ps) -> ∃ more, H' b = some (.tbl (ps ++ more))
section
variable {fs fs' ex ex' : List Addr} {H H1 H2 : Hp} {h h1 h2 h' : Heap} {a x e : Addr} {o : HO}
theorem Un.any (u : Un fs ex H H1 h h1) {b : Addr} {ob : Obj} (q : h.get? b = some ob) (n : H b = none) (hx : b ∉ ex) : ∃ sl, h1.get? b = some { ob with slots := sl } := by
  by_cases hb : b ∈ fs
  · exact u.slot b ob q n hb hx
  · exact ⟨ob.slots, u.keep b ob q n hb hx⟩
theorem Un.kept (k : ∀ b u, h.get? b = some u -> h'.get? b = some u) : Un fs ex H H h h' :=
  ⟨fun b ob q _ _ _ => k b ob q, fun b ob q _ _ _ => ⟨ob.slots, k b ob q⟩, fun _ _ _ n _ => n, fun b ob q _ => ⟨ob, k b ob q⟩, fun _ _ q => q, fun _ _ _ q => q, fun _ ps q => ⟨#[], by rw [q]; simp⟩⟩
theorem Un.refl : Un fs ex H H h h := Un.kept fun _ _ q => q
theorem Un.laid (k : ∀ b u, h.get? b = some u -> h'.get? b = some u) (hp : h.objs.size <= a) (hn : H a = none) : Un fs ex H (upd H a o) h h' where
  keep := fun b u q _ _ _ => k b u q
  slot := fun b u q _ _ _ => ⟨u.slots, k b u q⟩
  free := fun b u q n _ => by rw [upd_ne (Nat.ne_of_lt (Nat.lt_of_lt_of_le (Heap.lt_size q) hp))]; exact n
  there := fun b u q _ => ⟨u, k b u q⟩
  tups := fun b xs q => by rw [upd_ne (ne_of_none q hn)]; exact q
  frzs := fun b u xs q => by rw [upd_ne (ne_of_none q hn)]; exact q
  tbls := fun b ps q => ⟨#[], by rw [upd_ne (ne_of_none q hn), q]; simp⟩
theorem Un.write (mu : Mut (H x)) (he : e = x \/ H e = some (.own x)) (k : ∀ b u, b ≠ e -> h.get? b = some u -> h'.get? b = some u) (heo : ∃ u, h'.get? e = some u) : Un fs ex H (upd H x o) h h' := by
  have hx : ∀ b, H b = none -> b ≠ x := fun b n z => by subst z; rw [n] at mu; exact mu
  have hb : ∀ b, H b = none -> b ≠ e := fun b n z => by
    subst z
    rcases he with r | r
    · exact hx b n r
    · rw [n] at r; cases r
  have hm : ∀ b u, H b = some u -> ¬ Mut (some u) -> b ≠ x := fun b u q nm z => by subst z; rw [q] at mu; exact nm mu
  refine ⟨fun b u q n _ _ => k b u (hb b n) q, fun b u q n _ _ => ⟨u.slots, k b u (hb b n) q⟩, fun b u q n _ => by rw [upd_ne (hx b n)]; exact n, fun b u q _ => ?_,
    fun b xs q => by rw [upd_ne (hm b _ q fun z => z)]; exact q, fun b u xs q => by rw [upd_ne (hm b _ q fun z => z)]; exact q, fun b ps q => ⟨#[], by rw [upd_ne (hm b _ q fun z => z), q]; simp⟩⟩
  by_cases hbe : b = e
  · subst hbe; exact heo
  · exact ⟨u, k b u hbe q⟩
end
def trk (h : Heap) (H : Hp) : List Addr := (List.range h.objs.size).filter fun a => (H a).isSome
def hidT (h : Heap) (H : Hp) : Heap := PySem.W.hideAll h (trk h H)
theorem hidT_size (h : Heap) (H : Hp) : (hidT h H).objs.size = h.objs.size := PySem.W.hideAll_size _ _
theorem hidT_get {h : Heap} {H : Hp} {b : Addr} {o : Obj} (e : h.get? b = some o) (n : H b = none) : (hidT h H).get? b = some o :=
  PySem.W.hideAll_get _ e fun hm => by
    have q : (H b).isSome = true := (List.mem_filter.mp hm).2
    rw [n] at q; simp at q
theorem of_hidT {h : Heap} {H : Hp} {b : Addr} {o : Obj} (e : (hidT h H).get? b = some o) : h.get? b = some o /\ H b = none := by
  have e' : h.get? b = some o := PySem.W.of_hideAll (trk h H) e
  refine ⟨e', ?_⟩
  cases q : H b with
  | none => rfl
  | some x =>
    have hm : b ∈ trk h H := List.mem_filter.mpr ⟨List.mem_range.mpr (Heap.lt_size e'), by simp [q]⟩
    have z : (hidT h H).get? b = none := PySem.W.hideAll_none (trk h H) hm
    rw [z] at e; cases e
end L2
namespace L2
open PySem PySem.Spec PyProof.Rows
structure Mod (K : PySem.W.Frag) (mg : Str -> Option Value) (base : Heap) : Prop where
  kin : K.In base
  glob : base.Ns mainGlobals mg
  blt : ∃ mb, base.Ns builtinsNs mb /\ ∀ x : Str, x ≠ "__name__" -> mb x = bootBuiltins x
  nolimit : base.NoLimit
structure Cx where
  prog : Program
  w : World
  K : PySem.W.Frag
  mg : Str -> Option Value
  base : Heap
  A : Around
  N : List Str
  s₀ : Shared
  H₀ : Hp
  env : Env
  outer : List Env
  stack : List Env
  ex : List Addr
  fn : Str -> Bool
  calm : Bool
  pn : List (Addr × Obj)
  xe : Value -> Shared -> Prop
def frs (l : List Env) : List Addr := l.filterMap (·.frame)
abbrev Cx.fs (X : Cx) : List Addr := frs X.outer
def Vis (sc : Scope) (x : Str) : Prop := sc.names.lookup x = some .local \/ sc.names.lookup x = some .cell \/ sc.names.lookup x = some .free
def Loc (sc : Scope) (x : Str) : Prop := sc.names.lookup x = some .local \/ sc.names.lookup x = some .cell
def Look (env : Env) (h : Heap) (m : Str -> Option Value) (x : Str) (u : Value) : Prop :=
  (env.kindOf x = some .local /\ m x = some u) \/ ((env.kindOf x = some .cell \/ env.kindOf x = some .free) /\ ∃ c, env.cells.lookup x = some c /\ h.IsCell c (some u))
structure Cx.Ok (X : Cx) : Prop where
  mod : Mod X.K X.mg X.base
  kind : X.env.scope.kind = .function
  glob : X.env.globals = mainGlobals
  blt : X.env.builtins = builtinsNs
  above : X.s₀.heap.objs.size <= X.env.locals
  inj : ∀ x y c, X.env.cells.lookup x = some c -> X.env.cells.lookup y = some c -> x = y
  has : ∀ x, (X.env.kindOf x = some .cell \/ X.env.kindOf x = some .free) -> ∃ c, X.env.cells.lookup x = some c
  cab : ∀ x c, X.fn x = true -> X.env.cells.lookup x = some c -> X.s₀.heap.objs.size <= c
  hd : X.calm = true -> X.A.handled = none
  frames : X.A.frames = some X.stack
  stk : X.stack = X.outer \/ (X.stack = X.env :: X.outer /\ X.env.frame = some X.env.locals)
  exf : ∀ b ∈ X.ex, b ≠ X.env.locals /\ ∀ x c, X.env.cells.lookup x = some c -> c ≠ b
  bs : ∀ b o, X.base.get? b = some o -> X.s₀.heap.get? b = some o /\ X.H₀ b = none
  bsz : X.base.objs.size <= X.s₀.heap.objs.size
  noex : ∀ b o, X.base.get? b = some o -> b ∉ X.ex
  exfs : ∀ b ∈ X.ex, b ∉ X.fs
  funs : X.s₀.heap.FunFrames X.base X.outer
  frf : ∀ b ∈ X.fs, X.H₀ b = none
structure Inv (X : Cx) (pins : List (Addr × Obj)) (σ : List (Option V)) (H : Hp) (s : Shared) : Prop where
  ok : X.Ok
  os : s.os = X.s₀.os
  bare : AllBare s.gens
  base : Un X.fs X.ex X.H₀ H X.s₀.heap s.heap
  loc : ∃ m, s.heap.Ns X.env.locals m /\ ∀ (i : Nat) (x : Str) (v : V), X.N[i]? = some x -> σ[i]? = some (some v) -> Vis X.env.scope x -> ∃ u, RelV v u /\ Look X.env s.heap m x u
  cell : ∀ x c, X.env.cells.lookup x = some c -> ∃ v, s.heap.IsCell c v
  free : H X.env.locals = none
  freeC : ∀ x c, X.env.cells.lookup x = some c -> H c = none
  pin : ∀ p ∈ X.pn ++ pins, s.heap.get? p.1 = some p.2 /\ H p.1 = none /\ p.1 ≠ X.env.locals /\ p.1 ∉ X.fs /\ ∀ v, p.2.data ≠ .cell v
  hok : HOk X.prog X.w H s.heap
  len : σ.length = X.N.length
section
variable {X : Cx} {pins : List (Addr × Obj)} {σ : List (Option V)} {H H' : Hp} {s : Shared} {h' : Heap}
theorem Cx.Ok.nofr (ok : X.Ok) {b : Addr} {o : Obj} (e : X.base.get? b = some o) : b ∉ X.fs := fun hb => by
  have := (ok.funs.mem hb).1
  rw [e] at this; cases this
theorem Inv.bs (I : Inv X pins σ H s) : ∀ b o, X.base.get? b = some o -> s.heap.get? b = some o /\ H b = none := fun b o e =>
  ⟨I.base.keep b o (I.ok.bs b o e).1 (I.ok.bs b o e).2 (I.ok.nofr e) (I.ok.noex b o e), I.base.free b o (I.ok.bs b o e).1 (I.ok.bs b o e).2 (I.ok.noex b o e)⟩
theorem Inv.bk (I : Inv X pins σ H s) : ∀ b o, X.base.get? b = some o -> s.heap.get? b = some o := fun b o e => (I.bs b o e).1
theorem Inv.mod (I : Inv X pins σ H s) : Mod X.K X.mg X.base := I.ok.mod
theorem Inv.kIn (I : Inv X pins σ H s) : X.K.In s.heap := I.ok.mod.kin.keeps I.bk
theorem Inv.fr (I : Inv X pins σ H s) : ∃ m, Fr X.base X.env.locals s.heap m :=
  let ⟨m, hn, _⟩ := I.loc
  ⟨m, hn, I.bk, Nat.le_trans I.ok.bsz I.ok.above⟩
theorem Inv.lt (I : Inv X pins σ H s) : X.env.locals < s.heap.objs.size := let ⟨_, hn, _⟩ := I.loc; hn.lt
theorem Inv.sz (I : Inv X pins σ H s) : X.s₀.heap.objs.size <= s.heap.objs.size := Nat.le_trans I.ok.above (Nat.le_of_lt I.lt)
theorem Inv.nofs (I : Inv X pins σ H s) {a : Addr} (h : s.heap.objs.size <= a) : a ∉ X.fs := fun hb => by
  obtain ⟨_, o, ho, _⟩ := I.ok.funs.mem hb
  exact absurd (Nat.lt_of_lt_of_le (Heap.lt_size ho) (Nat.le_trans I.sz h)) (Nat.lt_irrefl _)
theorem Inv.cne (I : Inv X pins σ H s) : ∀ x c, X.env.cells.lookup x = some c -> c ≠ X.env.locals := fun x c e z => by
  obtain ⟨v, o, ho, hd⟩ := I.cell x c e
  obtain ⟨m, ⟨o', es, ep, ho', hd', _⟩, _⟩ := I.loc
  rw [z, ho'] at ho; cases ho; rw [hd'] at hd; cases hd
theorem Inv.funs (I : Inv X pins σ H s) : s.heap.FunFrames X.base X.outer := by
  have all : ∀ (l : List Env), (∀ b ∈ frs l, b ∈ X.fs) -> X.s₀.heap.FunFrames X.base l -> s.heap.FunFrames X.base l := by
    intro l
    induction l with
    | nil => intro _ _; trivial
    | cons env r ih =>
      intro hs hl
      obtain ⟨hk, ⟨L, o, hf, hn, ho, hd⟩, hr⟩ := hl
      have hL : L ∈ X.fs := hs L (by unfold frs; rw [List.filterMap_cons, hf]; exact List.mem_cons_self)
      obtain ⟨sl, e⟩ := I.base.slot L o ho (I.ok.frf L hL) hL fun z => I.ok.exfs L z hL
      exact ⟨hk, ⟨L, _, hf, hn, e, hd⟩, ih (fun b hb => hs b (by unfold frs; rw [List.filterMap_cons, hf]; exact List.mem_cons_of_mem _ hb)) hr⟩
  exact all X.outer (fun _ hb => hb) I.ok.funs
theorem Inv.stack (I : Inv X pins σ H s) : s.heap.FunFrames X.base X.stack := by
  rcases I.ok.stk with e | ⟨e, hf⟩
  · rw [e]; exact I.funs
  · rw [e]
    obtain ⟨m, hn, _⟩ := I.loc
    refine .cons (by rw [I.ok.kind]; decide) hf hn ?_ I.funs
    exact Heap.get?_none_of_le (Nat.le_trans I.ok.bsz I.ok.above)
theorem Inv.stkSub (I : Inv X pins σ H s) : ∀ b ∈ frs X.stack, b ∈ X.env.locals :: X.fs := fun b hb => by
  rcases I.ok.stk with e | ⟨e, hf⟩
  · rw [e] at hb; exact List.mem_cons_of_mem _ hb
  · rw [e] at hb
    unfold frs at hb
    rw [List.filterMap_cons, hf] at hb
    exact hb
theorem Inv.stkFree (I : Inv X pins σ H s) : ∀ b ∈ frs X.stack, H b = none := fun b hb => by
  rcases List.mem_cons.mp (I.stkSub b hb) with e | hb
  · rw [e]; exact I.free
  · obtain ⟨_, o, ho, _⟩ := I.ok.funs.mem hb
    exact I.base.free b o ho (I.ok.frf b hb) fun z => I.ok.exfs b z hb
theorem Inv.step {g' : Array GenState} {t' : Nat} {d' : Drawn} {ch : List Addr} (I : Inv X pins σ H s)
    (hch : ∀ b ∈ ch, (b ∈ X.ex \/ X.s₀.heap.objs.size <= b) /\ b ≠ X.env.locals /\ (∀ x c, X.env.cells.lookup x = some c -> c ≠ b) /\ ∀ p ∈ X.pn ++ pins, p.1 ≠ b)
    (keep : ∀ b o, b ≠ X.env.locals -> b ∉ X.fs -> b ∉ ch -> s.heap.get? b = some o -> H b = none -> h'.get? b = some o)
    (slot : ∀ b o, b ≠ X.env.locals -> b ∈ X.fs -> b ∉ ch -> s.heap.get? b = some o -> H b = none -> ∃ sl, h'.get? b = some { o with slots := sl }) (free : ∀ b o, b ∉ ch -> s.heap.get? b = some o -> H b = none -> H' b = none)
    (there : ∀ b o, b ∉ ch -> s.heap.get? b = some o -> ∃ o', h'.get? b = some o')
    (tups : ∀ b xs, H b = some (.tup xs) -> H' b = some (.tup xs)) (frzs : ∀ b o u, H b = some (.frz o u) -> H' b = some (.frz o u)) (tbls : ∀ b ps, H b = some (.tbl ps) -> ∃ more, H' b = some (.tbl (ps ++ more)))
    (ns : ∀ m, s.heap.Ns X.env.locals m -> h'.Ns X.env.locals m) (hok : HOk X.prog X.w H' h') (hg : AllBare g') :
    Inv X pins σ H' { s with heap := h', gens := g', drawn := d', toks := t' } := by
  have neL : ∀ b o, X.s₀.heap.get? b = some o -> b ≠ X.env.locals := fun b o e => Nat.ne_of_lt (Nat.lt_of_lt_of_le (Heap.lt_size e) I.ok.above)
  have neC : ∀ b o, X.s₀.heap.get? b = some o -> b ∉ X.ex -> b ∉ ch := fun b o e hx hb => by
    rcases (hch b hb).1 with z | z
    · exact hx z
    · exact absurd (Nat.lt_of_lt_of_le (Heap.lt_size e) z) (Nat.lt_irrefl _)
  have cellK : ∀ x c, X.env.cells.lookup x = some c -> ∀ v, s.heap.IsCell c v -> h'.IsCell c v := fun x c e v ⟨o, ho, hd⟩ => by
    have nch : c ∉ ch := fun z => (hch c z).2.2.1 x c e rfl
    by_cases hc : c ∈ X.fs
    · obtain ⟨sl, q⟩ := slot c o (I.cne x c e) hc nch ho (I.freeC x c e)
      exact ⟨_, q, hd⟩
    · exact ⟨o, keep c o (I.cne x c e) hc nch ho (I.freeC x c e), hd⟩
  refine ⟨I.ok, I.os, hg, ⟨fun b o e n hb hx => ?_, fun b o e n hb hx => ?_, fun b o e n hx => ?_, fun b o e hx => ?_, fun b xs e => tups b xs (I.base.tups b xs e), fun b o xs e => frzs b o xs (I.base.frzs b o xs e), fun b ps e => ?_⟩, ?_, fun x c e => ?_, ?_, fun x c e => ?_, fun p hp => ?_, hok, I.len⟩
  · exact keep b o (neL b o e) hb (neC b o e hx) (I.base.keep b o e n hb hx) (I.base.free b o e n hx)
  · obtain ⟨sl, e1⟩ := I.base.slot b o e n hb hx
    obtain ⟨sl', e2⟩ := slot b _ (neL b o e) hb (neC b o e hx) e1 (I.base.free b o e n hx)
    exact ⟨sl', e2⟩
  · obtain ⟨o', e1⟩ := I.base.there b o e hx
    exact free b o' (neC b o e hx) e1 (I.base.free b o e n hx)
  · obtain ⟨o', e1⟩ := I.base.there b o e hx
    exact there b o' (neC b o e hx) e1
  · obtain ⟨m1, e1⟩ := I.base.tbls b ps e
    obtain ⟨m2, e2⟩ := tbls b _ e1
    exact ⟨m1 ++ m2, by rw [e2, Array.append_assoc]⟩
  · obtain ⟨m, hn, hl⟩ := I.loc
    refine ⟨m, ns m hn, fun i x v e1 e2 e3 => ?_⟩
    obtain ⟨u, r, l⟩ := hl i x v e1 e2 e3
    refine ⟨u, r, ?_⟩
    rcases l with l | ⟨k, c, e, z⟩
    · exact .inl l
    · exact .inr ⟨k, c, e, cellK x c e _ z⟩
  · obtain ⟨v, z⟩ := I.cell x c e
    exact ⟨v, cellK x c e v z⟩
  · obtain ⟨m, ⟨o, _, _, ho, _⟩, _⟩ := I.loc
    exact free _ o (fun z => (hch _ z).2.1 rfl) ho I.free
  · obtain ⟨v, o, ho, hd⟩ := I.cell x c e
    exact free c o (fun z => (hch c z).2.2.1 x c e rfl) ho (I.freeC x c e)
  · obtain ⟨e, n, ne, nf, d⟩ := I.pin p hp
    have nch : p.1 ∉ ch := fun z => (hch p.1 z).2.2.2 p hp rfl
    exact ⟨keep p.1 p.2 ne nf nch e n, free p.1 p.2 nch e n, ne, nf, d⟩
theorem Inv.un {t' : Nat} (I : Inv X pins σ H s) (u : Un X.fs [] H H' s.heap h') (hok : HOk X.prog X.w H' h') : Inv X pins σ H' { s with heap := h', toks := t' } := by
  obtain ⟨m, ⟨o, es, ep, ho, r⟩, _⟩ := id I.loc
  obtain ⟨sl, hL⟩ := u.any ho I.free (by simp)
  exact I.step (g' := s.gens) (d' := s.drawn) (ch := []) (fun _ z => nomatch z) (fun b o _ hb _ e n => u.keep b o e n hb (by simp)) (fun b o _ hb _ e n => u.slot b o e n hb (by simp)) (fun b o _ e n => u.free b o e n (by simp)) (fun b o _ e => u.there b o e (by simp)) u.tups u.frzs u.tbls (fun m' hm => by
    obtain ⟨o', es', ep', ho', r'⟩ := hm
    rw [ho] at ho'; cases ho'
    exact ⟨_, es', ep', hL, r'⟩) hok I.bare
theorem Inv.call {g' : Array GenState} {t' : Nat} {d' : Drawn} {ch : List Addr} (I : Inv X pins σ H s) (u : Un (frs X.stack) ch H H' s.heap h') (hok : HOk X.prog X.w H' h') (hg : AllBare g')
    (hch : ∀ b ∈ ch, (b ∈ X.ex \/ X.s₀.heap.objs.size <= b) /\ b ≠ X.env.locals /\ (∀ x c, X.env.cells.lookup x = some c -> c ≠ b) /\ ∀ p ∈ X.pn ++ pins, p.1 ≠ b) :
    Inv X pins σ H' { s with heap := h', gens := g', drawn := d', toks := t' } := by
  obtain ⟨m, ⟨o, es, ep, ho, r⟩, _⟩ := id I.loc
  obtain ⟨sl, hL⟩ := u.any ho I.free fun z => (hch _ z).2.1 rfl
  exact I.step (ch := ch) hch (fun b o hL hb hc e n => u.keep b o e n (fun z => (List.mem_cons.mp (I.stkSub b z)).elim hL hb) hc) (fun b o _ _ hc e n => u.any e n hc) (fun b o hc e n => u.free b o e n hc) (fun b o hc e => u.there b o e hc) u.tups u.frzs u.tbls (fun m' hm => by
    obtain ⟨o', es', ep', ho', r'⟩ := hm
    rw [ho] at ho'; cases ho'
    exact ⟨_, es', ep', hL, r'⟩) hok hg
theorem Inv.turned {t' : Nat} {it : Addr} (I : Inv X pins σ H s) (k : ∀ b o, b ≠ it -> s.heap.get? b = some o -> h'.get? b = some o) (hn : H it = none) (hL : it ≠ X.env.locals)
    (h1 : it ∈ X.ex \/ X.s₀.heap.objs.size <= it) (h2 : ∀ x c, X.env.cells.lookup x = some c -> c ≠ it) (h3 : ∀ p ∈ X.pn ++ pins, p.1 ≠ it) : Inv X pins σ H { s with heap := h', toks := t' } := by
  have nit : ∀ b u, H b = some u -> b ≠ it := fun b u e z => by rw [z, hn] at e; cases e
  refine I.step (g' := s.gens) (d' := s.drawn) (ch := [it]) (fun b hb => ?_) (fun b o _ _ hc e _ => k b o (fun z => hc (by simp [z])) e) (fun b o _ _ hc e _ => ⟨o.slots, k b o (fun z => hc (by simp [z])) e⟩) (fun _ _ _ _ n => n)
    (fun b o hc e => ⟨o, k b o (fun z => hc (by simp [z])) e⟩) (fun _ _ e => e) (fun _ _ _ e => e) (fun b ps e => ⟨#[], by rw [e]; simp⟩) (fun m hm => ?_) (fun b u e => ?_) I.bare
  · have e : b = it := by simpa using hb
    subst e
    exact ⟨h1, hL, h2, h3⟩
  · obtain ⟨o, es, ep, ho, r⟩ := hm
    exact ⟨o, es, ep, k _ o (Ne.symm hL) ho, r⟩
  · refine (I.hok b u e).stay (fun c v hc q => k c v ?_ q) (fun _ q => q) fun _ _ q => q
    rcases hc with z | z
    · rw [z]; exact nit b u e
    · exact nit c _ z
theorem Inv.tok (I : Inv X pins σ H s) (t : Nat) : Inv X pins σ H { s with toks := t } := I.un (h' := s.heap) (t' := t) Un.refl I.hok
theorem Inv.kept {t' : Nat} (I : Inv X pins σ H s) (k : ∀ b u, s.heap.get? b = some u -> h'.get? b = some u) : Inv X pins σ H { s with heap := h', toks := t' } := I.un (Un.kept k) (I.hok.kept k)
theorem Inv.laid {a : Addr} {o : HO} {t' : Nat} (I : Inv X pins σ H s) (k : ∀ b u, s.heap.get? b = some u -> h'.get? b = some u) (hp : s.heap.objs.size <= a) (new : ObjOk X.prog X.w (upd H a o) h' a o) :
    Inv X pins σ (upd H a o) { s with heap := h', toks := t' } := I.un (Un.laid k hp (I.hok.fresh hp)) (I.hok.laid k hp new)
theorem Inv.write {x e : Addr} {o : HO} {t' : Nat} (I : Inv X pins σ H s) (mu : Mut (H x)) (he : e = x \/ H e = some (.own x)) (k : ∀ b u, b ≠ e -> s.heap.get? b = some u -> h'.get? b = some u) (heo : ∃ u, h'.get? e = some u)
    (new : ObjOk X.prog X.w (upd H x o) h' x o) : Inv X pins σ (upd H x o) { s with heap := h', toks := t' } := I.un (Un.write mu he k heo) (I.hok.write mu he k heo new)
theorem Inv.weak {σ' : List (Option V)} (I : Inv X pins σ H s) (hl : σ'.length = σ.length) (w : ∀ (i : Nat) v, σ'[i]? = some (some v) -> σ[i]? = some (some v)) : Inv X pins σ' H s :=
  ⟨I.ok, I.os, I.bare, I.base, let ⟨m, hn, hl'⟩ := I.loc; ⟨m, hn, fun i x v e1 e2 e3 => hl' i x v e1 (w i v e2) e3⟩, I.cell, I.free, I.freeC, I.pin, I.hok, hl.trans I.len⟩
theorem Inv.pins_of {pins' : List (Addr × Obj)} (I : Inv X pins σ H s) (h : ∀ p ∈ pins', s.heap.get? p.1 = some p.2 /\ H p.1 = none /\ p.1 ≠ X.env.locals /\ p.1 ∉ X.fs /\ ∀ v, p.2.data ≠ .cell v) : Inv X pins' σ H s :=
  ⟨I.ok, I.os, I.bare, I.base, I.loc, I.cell, I.free, I.freeC, fun p hp => (List.mem_append.mp hp).elim (fun z => I.pin p (List.mem_append_left _ z)) (h p), I.hok, I.len⟩
theorem nodup_ix {N : List Str} (hN : N.Nodup) {i j : Nat} {x : Str} (a : N[i]? = some x) (b : N[j]? = some x) : i = j := by
  obtain ⟨h1, e1⟩ := List.getElem?_eq_some_iff.mp a
  obtain ⟨h2, e2⟩ := List.getElem?_eq_some_iff.mp b
  exact (List.getElem_inj hN).mp (e1.trans e2.symm)
theorem store_ok2 {M : Model} {A : Around} {E : Value -> Shared -> Prop} {i : Nat} {x : Str} {v : V} {u : Value} {Q : Unit -> Shared -> Prop} (I : Inv X pins σ H s) (hN : X.N.Nodup) (hi : X.N[i]? = some x) (hx : Loc X.env.scope x) (r : RelV v u)
    (h : ∀ s', Inv X pins (σ.set i (some v)) H s' -> (∃ a, Heap.SameBut a s.heap s'.heap /\ (a = X.env.locals \/ X.env.cells.lookup x = some a)) -> Q () s') (hf : X.fn x = true \/ X.env.scope.names.lookup x = some .local := by first | exact .inl rfl | exact .inr rfl | assumption) : wpAny M A (storeName X.env x u) Q E s := by
  obtain ⟨m, hn, hl⟩ := id I.loc
  have hcls : (X.env.scope.kind == .class || (X.env.scope.kind == .module && X.env.locals != X.env.globals)) = false := by rw [I.ok.kind]; rfl
  have hiσ : i < σ.length := by rw [I.len]; exact (List.getElem?_eq_some_iff.mp hi).1
  have cne := I.cne
  have tracked : ∀ {a : Addr} {h' : Heap}, (∃ o, s.heap.get? a = some o /\ H a = none) -> Heap.SameBut a s.heap h' -> HOk X.prog X.w H h' := fun {a h'} ha hs b ob e => by
    obtain ⟨_, _, hfree⟩ := ha
    refine (I.hok b ob e).stay (fun c w' hc q => (hs.2 c ?_).trans q) (fun _ q => q) fun _ _ q => q
    rintro rfl
    rcases hc with rfl | hc
    · rw [hfree] at e; cases e
    · rw [hfree] at hc; cases hc
  rcases hx with hk | hk
  · refine wpAny_storeName_local hk hn (fun h' hn' hs => ?_) hcls
    obtain ⟨oL, _, _, hoL, _⟩ := id hn
    refine h _ ⟨I.ok, I.os, I.bare, ⟨fun b o e n hb hx => ?_, fun b o e n hb hx => ?_, I.base.free, fun b o e hx => ?_, I.base.tups, I.base.frzs, I.base.tbls⟩, ⟨_, hn', fun j y v' e1 e2 e3 => ?_⟩, fun y c e => ?_, I.free, I.freeC, fun p hp => ?_, tracked ⟨oL, hoL, I.free⟩ hs, by simpa using I.len⟩ ⟨_, hs, .inl rfl⟩
    · exact (hs.2 b (Nat.ne_of_lt (Nat.lt_of_lt_of_le (Heap.lt_size e) I.ok.above))).trans (I.base.keep b o e n hb hx)
    · obtain ⟨sl, e1⟩ := I.base.slot b o e n hb hx
      exact ⟨sl, (hs.2 b (Nat.ne_of_lt (Nat.lt_of_lt_of_le (Heap.lt_size e) I.ok.above))).trans e1⟩
    · obtain ⟨o', e1⟩ := I.base.there b o e hx
      exact ⟨o', (hs.2 b (Nat.ne_of_lt (Nat.lt_of_lt_of_le (Heap.lt_size e) I.ok.above))).trans e1⟩
    · by_cases hj : j = i
      · subst hj
        rw [hi] at e1; cases e1
        rw [List.getElem?_set_self hiσ] at e2
        cases e2
        exact ⟨u, r, .inl ⟨hk, by simp⟩⟩
      · rw [List.getElem?_set_ne (Ne.symm hj)] at e2
        obtain ⟨u', r', q⟩ := hl j y v' e1 e2 e3
        refine ⟨u', r', ?_⟩
        rcases q with ⟨k, e⟩ | ⟨k, c, e, z⟩
        · refine .inl ⟨k, ?_⟩
          have : y ≠ x := fun e => hj (nodup_ix hN e1 (e ▸ hi))
          simp [this, e]
        · exact .inr ⟨k, c, e, z.sameBut hs (cne y c e)⟩
    · obtain ⟨w', z⟩ := I.cell y c e
      exact ⟨w', z.sameBut hs (cne y c e)⟩
    · obtain ⟨e, n, ne, nf, d⟩ := I.pin p hp
      exact ⟨(hs.2 p.1 ne).trans e, n, ne, nf, d⟩
  · have hfn : X.fn x = true := by
      rcases hf with z | z
      · exact z
      · rw [z] at hk; cases hk
    obtain ⟨c, hc⟩ := I.ok.has x (.inl hk)
    obtain ⟨w', z⟩ := I.cell x c hc
    refine wpAny_storeName_cell I.ok.kind hk hc z (fun h' hc' hs => ?_)
    obtain ⟨oc, hoc, hocd⟩ := id z
    refine h { s with heap := h' } ⟨I.ok, I.os, I.bare, ⟨fun b o e n hb hx => ?_, fun b o e n hb hx => ?_, I.base.free, fun b o e hx => ?_, I.base.tups, I.base.frzs, I.base.tbls⟩, ⟨m, hn.sameBut hs (Ne.symm (cne x c hc)), fun j y v' e1 e2 e3 => ?_⟩, fun y c' e => ?_, I.free, I.freeC, fun p hp => ?_, tracked ⟨oc, hoc, I.freeC x c hc⟩ hs, by simpa using I.len⟩ ⟨c, hs, .inr hc⟩
    · exact (hs.2 b (Nat.ne_of_lt (Nat.lt_of_lt_of_le (Heap.lt_size e) (I.ok.cab x c hfn hc)))).trans (I.base.keep b o e n hb hx)
    · obtain ⟨sl, e1⟩ := I.base.slot b o e n hb hx
      exact ⟨sl, (hs.2 b (Nat.ne_of_lt (Nat.lt_of_lt_of_le (Heap.lt_size e) (I.ok.cab x c hfn hc)))).trans e1⟩
    · obtain ⟨o', e1⟩ := I.base.there b o e hx
      exact ⟨o', (hs.2 b (Nat.ne_of_lt (Nat.lt_of_lt_of_le (Heap.lt_size e) (I.ok.cab x c hfn hc)))).trans e1⟩
    · by_cases hj : j = i
      · subst hj
        rw [hi] at e1; cases e1
        rw [List.getElem?_set_self hiσ] at e2
        cases e2
        exact ⟨u, r, .inr ⟨.inl hk, c, hc, hc'⟩⟩
      · rw [List.getElem?_set_ne (Ne.symm hj)] at e2
        obtain ⟨u', r', q⟩ := hl j y v' e1 e2 e3
        refine ⟨u', r', ?_⟩
        rcases q with q | ⟨k, c', e, z'⟩
        · exact .inl q
        · refine .inr ⟨k, c', e, z'.sameBut hs ?_⟩
          rintro rfl
          exact hj (nodup_ix hN e1 (I.ok.inj _ _ _ e hc ▸ hi))
    · by_cases hcc : c' = c
      · subst hcc; exact ⟨_, hc'⟩
      · obtain ⟨w2, z2⟩ := I.cell y c' e
        exact ⟨w2, z2.sameBut hs hcc⟩
    · obtain ⟨e, n, ne, nf, d⟩ := I.pin p hp
      refine ⟨(hs.2 p.1 ?_).trans e, n, ne, nf, d⟩
      intro q
      rw [q, hoc] at e
      have q' : oc = p.2 := Option.some.inj e
      exact d w' (by rw [<- q']; exact hocd)
theorem store_ok {M : Model} {A : Around} {E : Value -> Shared -> Prop} {i : Nat} {x : Str} {v : V} {u : Value} {Q : Unit -> Shared -> Prop} (I : Inv X pins σ H s) (hN : X.N.Nodup) (hi : X.N[i]? = some x) (hx : Loc X.env.scope x) (r : RelV v u)
    (h : ∀ s', Inv X pins (σ.set i (some v)) H s' -> Q () s') (hf : X.fn x = true \/ X.env.scope.names.lookup x = some .local := by first | exact .inl rfl | exact .inr rfl | assumption) : wpAny M A (storeName X.env x u) Q E s :=
  store_ok2 I hN hi hx r (fun s' I' _ => h s' I') hf
theorem Inv.call' {s' : Shared} {ch : List Addr} (I : Inv X pins σ H s) (ho : s'.os = s.os) (u : Un (frs X.stack) ch H H' s.heap s'.heap) (hok : HOk X.prog X.w H' s'.heap) (hg : AllBare s'.gens)
    (hch : ∀ b ∈ ch, (b ∈ X.ex \/ X.s₀.heap.objs.size <= b) /\ b ≠ X.env.locals /\ (∀ x c, X.env.cells.lookup x = some c -> c ≠ b) /\ ∀ p ∈ X.pn ++ pins, p.1 ≠ b) : Inv X pins σ H' s' := by
  obtain ⟨h', g', d', t', o'⟩ := s'
  have e : o' = s.os := ho
  subst e
  exact I.call (g' := g') (t' := t') (d' := d') u hok hg hch
end
abbrev XK := Value -> Option Addr -> Hp -> Prop
abbrev St := List (Option V)
abbrev VK := V -> Hp -> Prop
abbrev TE := St -> Hp -> VK -> Prop
abbrev TT := St -> Hp -> (Bool -> Hp -> Prop) -> Prop
abbrev TA := St -> Hp -> (List V -> Hp -> Prop) -> Prop
structure Ends where
  nx : St -> Hp -> Prop
  rt : VK
  bk : St -> Hp -> Prop := fun _ _ => False
  ct : St -> Hp -> Prop := fun _ _ => False
abbrev TS := Ends -> St -> Hp -> Prop
def EP (X : Cx) (pins : List (Addr × Obj)) (σ : St) (Q : VK) (u : Value) (s' : Shared) : Prop := ∃ v H', Inv X pins σ H' s' /\ RelV v u /\ Q v H'
def TP (X : Cx) (pins : List (Addr × Obj)) (σ : St) (Q : Bool -> Hp -> Prop) (b : Bool) (s' : Shared) : Prop := ∃ H', Inv X pins σ H' s' /\ Q b H'
def AP (X : Cx) (pins : List (Addr × Obj)) (σ : St) (Q : List V -> Hp -> Prop) (us : List Value) (s' : Shared) : Prop := ∃ vs H', Inv X pins σ H' s' /\ Vals vs us /\ Q vs H'
def SP (X : Cx) (pins : List (Addr × Obj)) (D : Ends) (f : Flow) (s' : Shared) : Prop :=
  match f with
  | .next => ∃ σ' H', Inv X pins σ' H' s' /\ D.nx σ' H'
  | .brk => ∃ σ' H', Inv X pins σ' H' s' /\ D.bk σ' H'
  | .cont => ∃ σ' H', Inv X pins σ' H' s' /\ D.ct σ' H'
  | .ret u => ∃ v σ' H', Inv X pins σ' H' s' /\ RelV v u /\ D.rt v H'
def PE (X : Cx) (e : Expr) (t : TE) : Prop :=
  ∀ (pins : List (Addr × Obj)) (s : Shared) (σ : St) (H : Hp) (Q : VK), Inv X pins σ H s -> t σ H Q -> wpAny (model X.prog X.w) X.A (eval e X.env) (EP X pins σ Q) X.xe s
def PT (X : Cx) (e : Expr) (t : TT) : Prop :=
  ∀ (pins : List (Addr × Obj)) (s : Shared) (σ : St) (H : Hp) (Q : Bool -> Hp -> Prop), Inv X pins σ H s -> t σ H Q -> wpAny (model X.prog X.w) X.A (isTrue e X.env (eval e X.env)) (TP X pins σ Q) X.xe s
def PW (X : Cx) (e : Expr) (t : TT) : Prop :=
  ∀ (whole : Sem Value) (pins : List (Addr × Obj)) (s : Shared) (σ : St) (H : Hp) (Q : Bool -> Hp -> Prop), Inv X pins σ H s -> t σ H Q -> wpAny (model X.prog X.w) X.A (isTrue e X.env whole) (TP X pins σ Q) X.xe s
theorem PW.pt {X : Cx} {e : Expr} {t : TT} (h : PW X e t) : PT X e t := h _
def PA (X : Cx) (es : List Expr) (t : TA) : Prop :=
  ∀ (pos : Pos) (pins : List (Addr × Obj)) (s : Shared) (σ : St) (H : Hp) (Q : List V -> Hp -> Prop), Inv X pins σ H s -> t σ H Q -> wpAny (model X.prog X.w) X.A (spliced (backTo pos (starEach es X.env))) (AP X pins σ Q) X.xe s
def PS (X : Cx) (st : Stmt) (t : TS) : Prop :=
  ∀ (pins : List (Addr × Obj)) (s : Shared) (σ : St) (H : Hp) (D : Ends), Inv X pins σ H s -> t D σ H -> wpAny (model X.prog X.w) X.A (exec st X.env) (SP X pins D) X.xe s
def PSs (X : Cx) (st : List Stmt) (t : TS) : Prop :=
  ∀ (pins : List (Addr × Obj)) (s : Shared) (σ : St) (H : Hp) (D : Ends), Inv X pins σ H s -> t D σ H -> wpAny (model X.prog X.w) X.A (execs st X.env) (SP X pins D) X.xe s
theorem thn {α : Type} {t : Sem α} {Q Q' : α -> Shared -> Prop} {M : Model} {A : Around} {E : Value -> Shared -> Prop} {s : Shared} (h : wpAny M A t Q E s) (hQ : ∀ a s, Q a s -> Q' a s) : wpAny M A t Q' E s := wpAny_mono h hQ fun _ _ x => x
end L2
namespace L2
open PySem PySem.Spec PyProof.Rows
section
variable {X : Cx}
def tVar (i : Nat) : TE := fun σ H Q => ∃ v, σ[i]? = some (some v) /\ Q v H
def tC (v : V) : TE := fun _ H Q => Q v H
theorem pe_var {i : Nat} {x : Str} {pos : Pos} (hN : X.N[i]? = some x) (hv : Vis X.env.scope x) (hd : (x == ("__debug__" : Str)) = false := by decide) (hcd : (x == ("__classdict__" : Str)) = false := by decide) : PE X (.Name x pos) (tVar i) := by
  intro pins s σ H Q I h
  obtain ⟨v, e, h⟩ := h
  obtain ⟨m, hn, hl⟩ := I.loc
  obtain ⟨u, r, l⟩ := hl i x v hN e hv
  have fin : EP X pins σ Q u s := ⟨v, H, I, r, h⟩
  rcases l with ⟨hk, hm⟩ | ⟨hk, c, hc, hcell⟩
  · exact wpAny_Name (wpAny_loadName_local I.ok.kind hk hn hm fin) hd
  · rcases hk with hk | hk
    · exact wpAny_Name (wpAny_loadName_cell I.ok.kind hk hc hcell fin) hd
    · exact wpAny_Name (wpAny_loadName_free I.ok.kind hk hc hcell fin hcd) hd
theorem pe_int {i j pos} : PE X (.Constant (.int i) j pos) (tC (.int i)) := fun _ _ _ H _ I h => wpAny_Constant_int ⟨.int i, H, I.tok _, ⟨_, rfl⟩, h⟩
theorem pe_bl {b j pos} : PE X (.Constant (.bool b) j pos) (tC (.bl b)) := fun _ _ _ H _ I h => Constant_bool ⟨.bl b, H, I, rfl, h⟩
theorem pe_non {j pos} : PE X (.Constant .none j pos) (tC .non) := fun _ _ _ H _ I h => Constant_none ⟨.non, H, I, rfl, h⟩
theorem pe_str {x j pos} : PE X (.Constant (.str x) j pos) (tC (.str x)) := fun _ _ _ H _ I h => Calls.Constant_str ⟨.str x, H, I.tok _, ⟨_, rfl⟩, h⟩
def Gl (X : Cx) (x : Str) : Prop := X.env.kindOf x = some .globalImplicit
theorem ld_glob {E : Value -> Shared -> Prop} {pins : List (Addr × Obj)} {s : Shared} {σ : St} {H : Hp} {x : Str} {u : Value} {pos : Pos} {Q : Value -> Shared -> Prop} (I : Inv X pins σ H s) (hg : Gl X x) (hm : X.mg x = some u) (h : Q u s)
    (hd : (x == ("__debug__" : Str)) = false := by decide) : wpAny (model X.prog X.w) X.A (eval (.Name x pos) X.env) Q E s :=
  Calls.Name_function_global I.ok.kind hg (Calls.loadGlobal_global (by rw [I.ok.glob]; exact I.mod.glob.keeps I.bk) hm h) hd
theorem ld_blt {E : Value -> Shared -> Prop} {pins : List (Addr × Obj)} {s : Shared} {σ : St} {H : Hp} {x : Str} {u : Value} {pos : Pos} {Q : Value -> Shared -> Prop} (I : Inv X pins σ H s) (hg : Gl X x) (hm : X.mg x = none) (hv : bootBuiltins x = some u) (h : Q u s)
    (hn : x ≠ "__name__" := by decide) (hd : (x == ("__debug__" : Str)) = false := by decide) : wpAny (model X.prog X.w) X.A (eval (.Name x pos) X.env) Q E s := by
  obtain ⟨mb, h1, h2⟩ := I.mod.blt
  exact Calls.Name_function_global I.ok.kind hg (Calls.loadGlobal_builtin (by rw [I.ok.glob]; exact I.mod.glob.keeps I.bk) hm (by rw [I.ok.blt]; exact h1.keeps I.bk) ((h2 x hn).trans hv) h) hd
theorem pe_glob {x : Str} {v : V} {u : Value} {pos : Pos} (hg : Gl X x) (hm : X.mg x = some u) (r : RelV v u) (hd : (x == ("__debug__" : Str)) = false := by decide) : PE X (.Name x pos) (tC v) :=
  fun _ _ _ H _ I h => ld_glob I hg hm ⟨v, H, I, r, h⟩ hd
theorem pe_bltn {x : Str} {v : V} {u : Value} {pos : Pos} (hg : Gl X x) (hm : X.mg x = none) (hv : bootBuiltins x = some u) (r : RelV v u) (hn : x ≠ "__name__" := by decide) (hd : (x == ("__debug__" : Str)) = false := by decide) : PE X (.Name x pos) (tC v) :=
  fun _ _ _ H _ I h => ld_blt I hg hm hv ⟨v, H, I, r, h⟩ hn hd
variable {a b : Expr} {ta tb : TE} {pos : Pos}
def tB (t : TE) : TT := fun σ H Q => t σ H fun x H1 => ∃ c, x = .bl c /\ Q c H1
theorem pt_val {e : Expr} {t : TE} (h : PE X e t) (he : ∀ whole, isTrue e X.env whole = (do let v <- whole; standAt e.pos; holding [v] (truthy v)) := by intro _; rfl) : PT X e (tB t) := by
  intro pins s σ H Q I hw
  refine isTrue_plain (thn (h pins s σ H _ I hw) fun v s1 ⟨x, H1, I1, r1, q1⟩ => ?_) (he _)
  obtain ⟨d, rfl, q⟩ := q1
  cases r1
  exact wpAny_truthy_bool ⟨H1, I1, q⟩
variable {tA tB' : TT} {rest : List Expr}
def tAnd (t u : TT) : TT := fun σ H Q => t σ H fun c H1 => if c = true then u σ H1 Q else Q false H1
def tOr (t u : TT) : TT := fun σ H Q => t σ H fun c H1 => if c = true then Q true H1 else u σ H1 Q
def tNot (t : TT) : TT := fun σ H Q => t σ H fun c H1 => Q (!c) H1
theorem pw_and1 (ha : PT X a tA) : PW X (.BoolOp .And [a] pos) tA := by
  intro wh pins s σ H Q I h
  refine isTrue_and (thn (ha pins s σ H Q I h) fun c s1 e => ?_)
  cases c with
  | true => exact isTrue_and_nil e
  | false => exact e
theorem pw_or1 (ha : PT X a tA) : PW X (.BoolOp .Or [a] pos) tA := by
  intro wh pins s σ H Q I h
  refine isTrue_or (thn (ha pins s σ H Q I h) fun c s1 e => ?_)
  cases c with
  | false => exact isTrue_or_nil e
  | true => exact e
theorem pw_and (ha : PT X a tA) (hb : PW X (.BoolOp .And (b :: rest) pos) tB') : PW X (.BoolOp .And (a :: b :: rest) pos) (tAnd tA tB') := by
  intro wh pins s σ H Q I h
  refine isTrue_and (thn (ha pins s σ H _ I h) fun c s1 ⟨H1, I1, q1⟩ => ?_)
  cases c with
  | true => exact hb wh pins s1 σ H1 Q I1 q1
  | false => exact ⟨H1, I1, q1⟩
theorem pw_or (ha : PT X a tA) (hb : PW X (.BoolOp .Or (b :: rest) pos) tB') : PW X (.BoolOp .Or (a :: b :: rest) pos) (tOr tA tB') := by
  intro wh pins s σ H Q I h
  refine isTrue_or (thn (ha pins s σ H _ I h) fun c s1 ⟨H1, I1, q1⟩ => ?_)
  cases c with
  | true => exact ⟨H1, I1, q1⟩
  | false => exact hb wh pins s1 σ H1 Q I1 q1
theorem pt_not (ha : PT X a tA) : PT X (.UnaryOp .Not a pos) (tNot tA) := by
  intro pins s σ H Q I h
  exact isTrue_not (ha pins s σ H (fun c H1 => Q (!c) H1) I h)
def tAndV (ta tb : TE) : TE := fun σ H Q => ta σ H fun x H1 => ∃ c, x = .bl c /\ if c = true then tb σ H1 Q else Q (.bl false) H1
def tNotV (ta : TE) : TE := fun σ H Q => ta σ H fun x H1 => ∃ c, x = .bl c /\ Q (.bl (!c)) H1
theorem pe_one {op} {t : TE} (h : PE X a t) : PE X (.BoolOp op [a] pos) t := fun pins s σ H Q I hw => BoolOp_one (h pins s σ H Q I hw)
theorem pe_and (ha : PE X a ta) (hb : PE X (.BoolOp .And (b :: rest) pos) tb) : PE X (.BoolOp .And (a :: b :: rest) pos) (tAndV ta tb) := by
  intro pins s σ H Q I h
  refine BoolOp_and (thn (ha pins s σ H _ I h) fun v s1 ⟨x, H1, I1, r1, q1⟩ => ?_)
  obtain ⟨c, rfl, q1⟩ := q1
  cases r1
  refine wpAny_truthy_bool ?_
  cases c with
  | true => exact hb pins s1 σ H1 Q I1 q1
  | false => exact ⟨.bl false, H1, I1, rfl, q1⟩
theorem pe_not (ha : PE X a ta) : PE X (.UnaryOp .Not a pos) (tNotV ta) := by
  intro pins s σ H Q I h
  refine UnaryOp_ (thn (ha pins s σ H _ I h) fun v s1 ⟨x, H1, I1, r1, q1⟩ => ?_)
  obtain ⟨c, rfl, q1⟩ := q1
  cases r1
  exact not_of (wpAny_truthy_bool ⟨.bl (!c), H1, I1, rfl, q1⟩)
def tIf (t : TT) (ta tb : TE) : TE := fun σ H Q => t σ H fun c H1 => if c = true then ta σ H1 Q else tb σ H1 Q
theorem pe_ifExp {c : Expr} (hc : PT X c tA) (ha : PE X a ta) (hb : PE X b tb) : PE X (.IfExp c a b pos) (tIf tA ta tb) := by
  intro pins s σ H Q I h
  refine wpAny_IfExp (thn (hc pins s σ H _ I h) fun d s1 ⟨H1, I1, q1⟩ => ?_)
  cases d with
  | true => exact ha pins s1 σ H1 Q I1 q1
  | false => exact hb pins s1 σ H1 Q I1 q1
end
end L2
namespace L2
open PySem PySem.Spec PyProof.Rows
def SqL (K : PySem.W.Frag) (H : Hp) (a : Addr) (xs : List V) : Prop :=
  Rd H a (.lst xs) \/
    ∃ (o : Obj) (its : Array Value) (n : Nat), K.lookup a = some o /\ o.cls = .type "list" /\ o.dict = none /\ o.data = .seq its n /\ its.size <= sizeLine /\ Vals xs its.toList
def SqT (K : PySem.W.Frag) (H : Hp) (a : Addr) (xs : List V) : Prop :=
  Rd H a (.tup xs) \/
    ∃ (o : Obj) (its : Array Value) (n : Nat), K.lookup a = some o /\ o.cls = .type "tuple" /\ o.data = .seq its n /\ its.size <= sizeLine /\ Vals xs its.toList
def absV : Value -> Option V
  | .none => some .non
  | .bool b => some (.bl b)
  | .int i _ => some (.int i)
  | .str x _ => some (.str x)
  | .bytes b _ => some (.byt b)
  | .float b _ => some (.flt b)
  | .ref a => some (.ref a)
  | .type n => some (.ty n)
  | _ => none
theorem RelV.abs {x : V} {u : Value} (r : RelV x u) : absV u = some x := by
  cases x with
  | non => cases r; rfl
  | bl _ => cases r; rfl
  | int _ => obtain ⟨t, rfl⟩ := r; rfl
  | str _ => obtain ⟨t, rfl⟩ := r; rfl
  | byt _ => obtain ⟨t, rfl⟩ := r; rfl
  | flt _ => obtain ⟨t, rfl⟩ := r; rfl
  | ref _ => cases r; rfl
  | ty _ => cases r; rfl
theorem RelV.inj {x y : V} {u : Value} (r : RelV x u) (q : RelV y u) : x = y := Option.some.inj (r.abs.symm.trans q.abs)
theorem Vals.inj : ∀ {xs ys : List V} {us : List Value}, Vals xs us -> Vals ys us -> xs = ys
  | _, _, _, .nil, .nil => rfl
  | _, _, _, .cons r t, .cons r' t' => by rw [r.inj r', Vals.inj t t']
section
variable {X : Cx} {pins : List (Addr × Obj)} {σ : St} {H : Hp} {s : Shared} {a : Addr} {xs ys : List V}
theorem SqL.of {K : PySem.W.Frag} (h : H a = some (.lst xs)) : SqL K H a xs := .inl (.inl h)
theorem SqT.of {K : PySem.W.Frag} (h : H a = some (.tup xs)) : SqT K H a xs := .inl (.inl h)
theorem Inv.list (I : Inv X pins σ H s) (h : SqL X.K H a xs) : ∃ its : List Value, Vals xs its /\ PlainL s.heap a its.toArray /\ xs.length <= sizeLine := by
  rcases h with h | ⟨o, its, n, hk, hc, hd, hs, hz, r⟩
  · obtain ⟨z, its, n, r, e⟩ := h.ok I.hok
    exact ⟨its, r, ⟨_, n, e, rfl, rfl, rfl⟩, z⟩
  · refine ⟨its.toList, r, ⟨o, n, I.kIn a o hk, hc, hd, by simpa using hs⟩, ?_⟩
    have e := r.length
    simp only [Array.length_toList] at e
    omega
theorem Inv.tuple (I : Inv X pins σ H s) (h : SqT X.K H a xs) : ∃ its : List Value, Vals xs its /\ IsTup s.heap a its.toArray /\ xs.length <= sizeLine := by
  rcases h with h | ⟨o, its, n, hk, hc, hs, hz, r⟩
  · obtain ⟨z, its, r, p⟩ := h.ok I.hok
    exact ⟨its, r, p, z⟩
  · refine ⟨its.toList, r, ⟨o, I.kIn a o hk, hc, n, by simpa using hs⟩, ?_⟩
    have e := r.length
    simp only [Array.length_toList] at e
    omega
theorem Inv.list_inj (I : Inv X pins σ H s) (h : SqL X.K H a xs) (h' : SqL X.K H a ys) : xs = ys := by
  obtain ⟨its, r, ⟨o, n, e, _, _, d⟩, _⟩ := I.list h
  obtain ⟨its', r', ⟨o', n', e', _, _, d'⟩, _⟩ := I.list h'
  rw [e] at e'; cases e'
  rw [d] at d'
  injection d' with d1 _
  have : its = its' := by simpa using congrArg Array.toList d1
  subst this
  exact r.inj r'
theorem Inv.tuple_inj (I : Inv X pins σ H s) (h : SqT X.K H a xs) (h' : SqT X.K H a ys) : xs = ys := by
  obtain ⟨its, r, ⟨o, e, _, n, d⟩, _⟩ := I.tuple h
  obtain ⟨its', r', ⟨o', e', _, n', d'⟩, _⟩ := I.tuple h'
  rw [e] at e'; cases e'
  rw [d] at d'
  injection d' with d1 _
  have : its = its' := by simpa using congrArg Array.toList d1
  subst this
  exact r.inj r'
end
abbrev Cx.wish (X : Cx) (E : Value -> Shared -> Prop) : Cx := { X with xe := E }
abbrev Cx.nox (X : Cx) : Cx := X.wish fun _ _ => False
theorem Cx.Ok.wish {X : Cx} (ok : X.Ok) (E : Value -> Shared -> Prop) : (X.wish E).Ok :=
  ⟨ok.mod, ok.kind, ok.glob, ok.blt, ok.above, ok.inj, ok.has, ok.cab, ok.hd, ok.frames, ok.stk, ok.exf, ok.bs, ok.bsz, ok.noex, ok.exfs, ok.funs, ok.frf⟩
theorem Cx.Ok.unwish {X : Cx} {E : Value -> Shared -> Prop} (ok : (X.wish E).Ok) : X.Ok :=
  ⟨ok.mod, ok.kind, ok.glob, ok.blt, ok.above, ok.inj, ok.has, ok.cab, ok.hd, ok.frames, ok.stk, ok.exf, ok.bs, ok.bsz, ok.noex, ok.exfs, ok.funs, ok.frf⟩
section
variable {X : Cx} {pins : List (Addr × Obj)} {σ : St} {H : Hp} {s : Shared} {E : Value -> Shared -> Prop}
theorem Inv.wish (I : Inv X pins σ H s) (E : Value -> Shared -> Prop) : Inv (X.wish E) pins σ H s := ⟨I.ok.wish E, I.os, I.bare, I.base, I.loc, I.cell, I.free, I.freeC, I.pin, I.hok, I.len⟩
theorem Inv.unwish (I : Inv (X.wish E) pins σ H s) : Inv X pins σ H s := ⟨I.ok.unwish, I.os, I.bare, I.base, I.loc, I.cell, I.free, I.freeC, I.pin, I.hok, I.len⟩
theorem SP.unwish {D : Ends} {f : Flow} {s' : Shared} (h : SP (X.wish E) pins D f s') : SP X pins D f s' := by
  cases f with
  | next => obtain ⟨σ', H', I, q⟩ := h; exact ⟨σ', H', I.unwish, q⟩
  | brk => obtain ⟨σ', H', I, q⟩ := h; exact ⟨σ', H', I.unwish, q⟩
  | cont => obtain ⟨σ', H', I, q⟩ := h; exact ⟨σ', H', I.unwish, q⟩
  | ret u => obtain ⟨v, σ', H', I, r, q⟩ := h; exact ⟨v, σ', H', I.unwish, r, q⟩
theorem PSs.nox {st : List Stmt} {t : TS} (h : PSs X.nox st t) : PSs X st t := fun pins s σ H D I hw =>
  wpAny_mono (h pins s σ H D (I.wish _) hw) (fun _ _ q => q.unwish) fun _ _ z => False.elim z
end
section
variable {X : Cx} {st : Stmt} {rest : List Stmt} {t u : TS} {e : Expr} {te : TE} {pos : Pos}
def tNext : TS := fun D σ H => D.nx σ H
def tSeq (t u : TS) : TS := fun D σ H => t { D with nx := u D } σ H
theorem pss_nil : PSs X [] tNext := fun _ _ σ H _ I h => wpAny_execs_nil ⟨σ, H, I, h⟩
theorem pss_cons (h1 : PS X st t) (h2 : PSs X rest u) : PSs X (st :: rest) (tSeq t u) := by
  intro pins s σ H D I h
  refine wpAny_execs_cons (thn (h1 pins s σ H { D with nx := u D } I h) fun f s1 q => ?_)
  cases f with
  | next =>
    obtain ⟨σ', H', I', q⟩ := q
    exact h2 pins s1 σ' H' D I' q
  | ret v => exact q
  | brk => exact q
  | cont => exact q
theorem pss_one (h1 : PS X st t) : PSs X [st] t := by
  intro pins s σ H D I h
  refine wpAny_execs_cons (thn (h1 pins s σ H D I h) fun f s1 q => ?_)
  cases f with
  | next => exact wpAny_execs_nil q
  | ret v => exact q
  | brk => exact q
  | cont => exact q
theorem Inv.quiet {pins : List (Addr × Obj)} {σ : St} {H : Hp} {s : Shared} (I : Inv X pins σ H s) : interactive X.env = false := by simp [interactive, I.ok.kind]
def tDrop (te : TE) : TS := fun D σ H => te σ H fun _ H1 => D.nx σ H1
theorem ps_expr (he : PE X e te) (hs : swapsWith e none pos.line X.env = pure false := by rfl) : PS X (.Expr e pos) (tDrop te) := by
  intro pins s σ H D I h
  exact wpAny_Expr_any (thn (he pins s σ H _ I h) fun v s1 ⟨x, H1, I1, r1, q1⟩ => ⟨σ, H1, I1, q1⟩) I.quiet hs
def tRet (te : TE) : TS := fun D σ H => te σ H D.rt
theorem ps_ret (he : PE X e te) : PS X (.Return (some e) pos) (tRet te) := by
  intro pins s σ H D I h
  exact wpAny_Return_some (thn (he pins s σ H _ I h) fun v s1 ⟨x, H1, I1, r1, q1⟩ => ⟨x, σ, H1, I1, r1, q1⟩)
def tIfS (c : TT) (t u : TS) : TS := fun D σ H => c σ H fun b H1 => if b = true then t D σ H1 else u D σ H1
theorem ps_if {c : Expr} {a b : List Stmt} {tc : TT} (hc : PT X c tc) (ha : PSs X a t) (hb : PSs X b u) : PS X (.If c a b pos) (tIfS tc t u) := by
  intro pins s σ H D I h
  refine wpAny_If (thn (hc pins s σ H _ I h) fun d s1 ⟨H1, I1, q1⟩ => ?_)
  cases d with
  | true => exact ha pins s1 σ H1 D I1 q1
  | false => exact hb pins s1 σ H1 D I1 q1
end
abbrev TG := V -> St -> Hp -> (St -> Hp -> Prop) -> Prop
abbrev TGs := List V -> St -> Hp -> (St -> Hp -> Prop) -> Prop
def PG (X : Cx) (target : Expr) (t : TG) : Prop :=
  ∀ (pins : List (Addr × Obj)) (s : Shared) (σ : St) (H : Hp) (v : V) (u : Value) (Q : St -> Hp -> Prop), Inv X pins σ H s -> RelV v u -> t v σ H Q ->
    wpAny (model X.prog X.w) X.A (assign target X.env u) (fun _ s' => ∃ σ' H', Inv X pins σ' H' s' /\ Q σ' H') X.xe s
def PGs (X : Cx) (ts : List Expr) (t : TGs) : Prop :=
  ∀ (pins : List (Addr × Obj)) (s : Shared) (σ : St) (H : Hp) (vs : List V) (us : List Value) (Q : St -> Hp -> Prop), Inv X pins σ H s -> Vals vs us -> t vs σ H Q ->
    wpAny (model X.prog X.w) X.A (assignInOrder ((assignEach ts X.env).map (·.2)) us) (fun _ s' => ∃ σ' H', Inv X pins σ' H' s' /\ Q σ' H') X.xe s
abbrev TSet := V -> V -> V -> Hp -> (Hp -> Prop) -> Prop
def PSet (X : Cx) (t : TSet) : Prop :=
  ∀ (pins : List (Addr × Obj)) (s : Shared) (σ : St) (H : Hp) (o i v : V) (ov iv u : Value) (Q : Hp -> Prop), Inv X pins σ H s -> RelV o ov -> RelV i iv -> RelV v u -> t o i v H Q ->
    wpAny (model X.prog X.w) X.A (setItem ov iv u) (fun _ s' => ∃ H', Inv X pins σ H' s' /\ Q H') X.xe s
section
variable {X : Cx} {pos : Pos}
def gName (i : Nat) : TG := fun v σ H Q => Q (σ.set i (some v)) H
theorem pg_name {i : Nat} {x : Str} (hN : X.N.Nodup) (hi : X.N[i]? = some x) (hx : Loc X.env.scope x) (hf : X.fn x = true \/ X.env.scope.names.lookup x = some .local := by first | exact .inl rfl | exact .inr rfl | assumption) : PG X (.Name x pos) (gName i) := by
  intro pins s σ H v u Q I r h
  exact wpAny_assign_Name (store_ok I hN hi hx r (fun s' I' => ⟨_, H, I', h⟩) hf)
def gNil : TGs := fun vs σ H Q => vs = [] /\ Q σ H
def gCons (t : TG) (u : TGs) : TGs := fun vs σ H Q => ∃ v r, vs = v :: r /\ t v σ H fun σ' H' => u r σ' H' Q
theorem pgs_nil : PGs X [] gNil := by
  intro pins s σ H vs us Q I r h
  obtain ⟨e, h⟩ := h
  subst e
  cases r
  exact assignInOrder_nil ⟨σ, H, I, h⟩
theorem pgs_cons {e : Expr} {es : List Expr} {t : TG} {u : TGs} (h1 : PG X e t) (h2 : PGs X es u)
    (hs : (assignEach (e :: es) X.env).map (·.2) = assign e X.env :: (assignEach es X.env).map (·.2) := by rfl) : PGs X (e :: es) (gCons t u) := by
  intro pins s σ H vs us Q I r h
  obtain ⟨v, vr, e1, h⟩ := h
  subst e1
  cases r with
  | cons r rr =>
    rw [hs]
    refine assignInOrder_cons (thn (h1 pins s σ H _ _ _ I r h) fun _ s1 ⟨σ1, H1, I1, q1⟩ => ?_)
    exact h2 pins s1 σ1 H1 _ _ Q I1 rr q1
def gTup (K : PySem.W.Frag) (n : Nat) (t : TGs) : TG := fun v σ H Q => ∃ a xs, v = .ref a /\ SqT K H a xs /\ xs.length = n /\ t xs σ H Q
theorem pg_tup {es : List Expr} {k : Nat} {t : TGs} {n : Nat} (hc : X.calm = true) (h : PGs X es t)
    (hn : (assignEach es X.env).length = n := by rfl) (hst : (assignEach es X.env).findIdx? (·.1) = none := by rfl) : PG X (.Tuple es k pos) (gTup X.K n t) := by
  intro pins s σ H v u Q I r hw
  obtain ⟨a, xs, e1, hq, hl, hw⟩ := hw
  subst e1
  cases r
  obtain ⟨its, rv, ht, hz⟩ := I.tuple hq
  refine assign_Tuple_tuple (I.ok.hd hc) ht (by simp [hn, <- hl, rv.length]) hst fun h' hx => ?_
  have I1 : Inv X pins σ H { s with heap := h' } := I.kept (t' := s.toks) fun b o e => hx b o (Nat.ne_of_lt (Heap.lt_size e)) e
  exact h pins _ σ H xs _ Q I1 (by simpa using rv) hw
def gSub (to ti : TE) (t : TSet) : TG := fun v σ H Q => to σ H fun o H1 => ti σ H1 fun i H2 => t o i v H2 fun H3 => Q σ H3
theorem pg_sub {o i : Expr} {to ti : TE} {t : TSet} (ho : PE X o to) (hi : PE X i ti) (hs : PSet X t)
    (ha : ∀ v, assign (.Subscript o i pos) X.env v = (do
      let ov <- holding [v] (eval o X.env)
      let iv <- holding [v, ov] (eval i X.env)
      standAt pos
      holding [v, ov, iv] (setItem ov iv v)
      release [v, ov, iv] []) := by intro _; rfl) : PG X (.Subscript o i pos) (gSub to ti t) := by
  intro pins s σ H v u Q I r h
  rw [ha]
  refine wpAny_bind (wpAny_holding (thn (ho pins s σ H _ I h) fun ov s1 ⟨x, H1, I1, r1, q1⟩ => ?_))
  refine wpAny_bind (wpAny_holding (thn (hi pins s1 σ H1 _ I1 q1) fun iv s2 ⟨y, H2, I2, r2, q2⟩ => ?_))
  refine wpAny_bind (wpAny_standAt (wpAny_bind (wpAny_holding (thn (hs pins s2 σ H2 x y v ov iv u _ I2 r1 r2 r q2) fun _ s3 ⟨H3, I3, q3⟩ => ?_))))
  exact wpAny_release ⟨σ, H3, I3, q3⟩
def tAsg (te : TE) (g : TG) : TS := fun D σ H => te σ H fun x H1 => g x σ H1 D.nx
theorem ps_asg {tg e : Expr} {te : TE} {g : TG} (he : PE X e te) (hg : PG X tg g) (hs : swapsWithSole [tg] e pos.line X.env = pure false := by rfl) (hw : swappedStores [tg] e X.env = pure none := by rfl)
    (h1 : (assignEach [tg] X.env).map (·.2) = [assign tg X.env] := by rfl) : PS X (.Assign [tg] e pos) (tAsg te g) := by
  intro pins s σ H D I h
  refine wpAny_Assign_stores (thn (he pins s σ H _ I h) fun v s1 ⟨x, H1, I1, r1, q1⟩ => ?_) hs hw
  rw [h1]
  exact thn (hg pins s1 σ H1 x v _ I1 r1 q1) fun _ s2 q => q
theorem ps_set {i : Nat} {x : Str} {e : Expr} {te : TE} {pos' : Pos} (hN : X.N.Nodup) (hi : X.N[i]? = some x) (hx : Loc X.env.scope x) (he : PE X e te) (hs : swapsWith e (some (.Name x pos')) pos.line X.env = pure false := by rfl) (hf : X.fn x = true \/ X.env.scope.names.lookup x = some .local := by first | exact .inl rfl | exact .inr rfl | assumption) :
    PS X (.Assign [.Name x pos'] e pos) (tAsg te (gName i)) := by
  intro pins s σ H D I h
  refine wpAny_Assign_Name (thn (he pins s σ H _ I h) fun v s1 ⟨y, H1, I1, r1, q1⟩ => ?_) hs
  exact store_ok I1 hN hi hx r1 (fun s2 I2 => ⟨_, H1, I2, q1⟩) hf
def tPar (i j : Nat) (ta : TA) : TS := fun D σ H => ta σ H fun vs H1 => ∃ v w, vs = [v, w] /\ D.nx ((σ.set i (some v)).set j (some w)) H1
theorem ps_par {i j : Nat} {x y : Str} {a b : Expr} {ta : TA} {px py pt : Pos} {kt k2 pt2} (hc : X.calm = true) (hN : X.N.Nodup) (hi : X.N[i]? = some x) (hj : X.N[j]? = some y) (hij : i ≠ j)
    (hx : X.env.scope.names.lookup x = some .local) (hy : X.env.scope.names.lookup y = some .local) (ha : PA X [a, b] ta)
    (hw : swappedStores [.Tuple [.Name x px, .Name y py] kt pt] (.Tuple [a, b] k2 pt2) X.env = pure (some [x, y]))
    (hs : swapsWithSole [.Tuple [.Name x px, .Name y py] kt pt] (.Tuple [a, b] k2 pt2) pos.line X.env = pure false := by rfl) :
    PS X (.Assign [.Tuple [.Name x px, .Name y py] kt pt] (.Tuple [a, b] k2 pt2) pos) (tPar i j ta) := by
  intro pins s σ H D I h
  rw [exec_Assign_arm]
  refine wpAny_bind (wpAny_standAt ?_)
  rw [hs]
  refine wpAny_bind (wpAny_pure ?_)
  rw [if_neg (by decide)]
  refine wpAny_bind (Tuple_ (thn (ha _ pins s σ H _ I h) fun us s1 ⟨vs, H1, I1, r1, q1⟩ => ?_))
  obtain ⟨v, w, e1, q1⟩ := q1
  subst e1
  obtain ⟨u1, u2, rfl, rv, rw'⟩ : ∃ u1 u2, us = [u1, u2] /\ RelV v u1 /\ RelV w u2 := by
    cases r1 with
    | cons p q =>
      cases q with
      | cons p' q' =>
        cases q'
        exact ⟨_, _, rfl, p, p'⟩
  refine wpAny_newObj_type ?_ (by show 2 <= sizeLine; decide)
  have I2 : Inv X pins σ H1 { s1 with heap := s1.heap.push { cls := .type "tuple", data := .seq [u1, u2].toArray } } := I1.kept (t' := s1.toks) fun b o e => Heap.get?_push_of_some _ e
  rw [hw]
  refine wpAny_bind (wpAny_pure ?_)
  show wpAny (model X.prog X.w) X.A (do rule "assign.swapped-stores"; let items <- unpackItems (.ref s1.heap.objs.size) 2 none; assignInOrder [fun v => bindName X.env y v, fun v => bindName X.env x v] items.reverse; pure Flow.next) _ _ _
  refine wpAny_bind (wpAny_rule (wpAny_bind (unpackItems_tuple (items := #[u1, u2]) (I.ok.hd hc) (IsTup.new s1.heap _) fun h' hx' => ?_)))
  have I3 := I2.kept (h' := h') (t' := s1.toks) fun b o e => hx' b o (Nat.ne_of_lt (Heap.lt_size e)) e
  show wpAny _ _ (assignInOrder [fun v => bindName X.env y v, fun v => bindName X.env x v] [u2, u1] >>= fun _ => pure Flow.next) _ _ _
  refine wpAny_bind (assignInOrder_cons (wpAny_bindName (store_ok I3 hN hj (.inl hy) rw' (fun s2 I4 => ?_) (.inr hy))))
  refine assignInOrder_cons (wpAny_bindName (store_ok I4 hN hi (.inl hx) rv (fun s3 I5 => assignInOrder_nil (wpAny_pure ?_)) (.inr hx)))
  rw [List.set_comm _ _ (Ne.symm hij)] at I5
  exact ⟨_, H1, I5, q1⟩
end
section
variable {X : Cx} {pos : Pos}
def tWhile (c : TT) (tb : TS) : TS := fun D σ H => ∃ W : Nat -> St -> Hp -> Prop, (∃ m, W m σ H) /\ ∀ m σ H, W m σ H ->
  c σ H fun b H1 => if b = true then ∃ N : St -> Hp -> Prop, (∀ σ' H', N σ' H' -> ∃ m', m' < m /\ W m' σ' H') /\ tb { D with nx := N, ct := N, bk := D.nx } σ H1 else D.nx σ H1
theorem ps_while {c : Expr} {body : List Stmt} {tc : TT} {tb : TS} (hp : PassesOwn (model X.prog X.w) X.A X.env X.xe) (hc : PT X c tc) (hb : PSs X body tb) : PS X (.While c body [] pos) (tWhile tc tb) := by
  intro pins s σ H D I h
  obtain ⟨W, ⟨m0, w0⟩, turn⟩ := h
  refine wpAny_While (codeAny_whileLoop (fun n s' => ∃ σ' H', Inv X pins σ' H' s' /\ W n σ' H') ?_ m0 ⟨σ, H, I, w0⟩)
  rintro n s1 ⟨σ1, H1, I1, w1⟩
  refine wpAny_passesOwn hp (thn (hc pins s1 σ1 H1 _ I1 (turn n σ1 H1 w1)) fun b s2 ⟨H2, I2, q2⟩ => ?_)
  cases b with
  | true =>
    obtain ⟨N, hN, q2⟩ := q2
    rw [if_pos rfl]
    refine wpAny_passesOwn hp (thn (hb pins s2 σ1 H2 _ I2 q2) fun f s3 q3 => ?_)
    cases f with
    | next =>
      obtain ⟨σ3, H3, I3, n3⟩ := q3
      obtain ⟨m', hm, w3⟩ := hN σ3 H3 n3
      exact ⟨m', hm, σ3, H3, I3, w3⟩
    | cont =>
      obtain ⟨σ3, H3, I3, n3⟩ := q3
      obtain ⟨m', hm, w3⟩ := hN σ3 H3 n3
      exact ⟨m', hm, σ3, H3, I3, w3⟩
    | brk => exact q3
    | ret v => exact q3
  | false =>
    rw [if_neg Bool.false_ne_true]
    exact wpAny_execs_nil ⟨σ1, H2, I2, q2⟩
end
structure It where
  go : Nat -> Hp -> Prop
  yld : Nat -> Hp -> V -> Hp -> Prop
  stop : Nat -> Hp -> Prop
def FpOk (X : Cx) (pins : List (Addr × Obj)) (H : Hp) (b : Addr) : Prop :=
  H b = none /\ b ≠ X.env.locals /\ b ∉ X.fs /\ (b ∈ X.ex \/ X.s₀.heap.objs.size <= b) /\ (∀ x c, X.env.cells.lookup x = some c -> c ≠ b) /\ ∀ p ∈ X.pn ++ pins, p.1 ≠ b
theorem Inv.fpOk {X : Cx} {pins : List (Addr × Obj)} {σ : St} {H H' : Hp} {s : Shared} {b : Addr} (I : Inv X pins σ H s) (hb : s.heap.objs.size <= b) (hn : H' b = none) : FpOk X pins H' b := by
  refine ⟨hn, Nat.ne_of_gt (Nat.lt_of_lt_of_le I.lt hb), I.nofs hb, .inr (Nat.le_trans I.sz hb), fun x c e z => ?_, fun p hp z => ?_⟩
  · obtain ⟨v, q⟩ := I.cell x c e
    exact absurd (Nat.lt_of_lt_of_le q.lt (by rw [z]; exact hb)) (Nat.lt_irrefl _)
  · exact absurd (Nat.lt_of_lt_of_le (Heap.lt_size (I.pin p hp).1) (by rw [z]; exact hb)) (Nat.lt_irrefl _)
structure Turn (P : Program) (w : World) (K : PySem.W.Frag) (tg : Expr) (J : It) (fp : List Addr) (it : Addr) (tn : Nat -> Heap -> Prop) : Prop where
  mem : it ∈ fp
  obj : ∀ i h, tn i h -> ∀ b ∈ fp, ∃ o, h.get? b = some o /\ ∀ v, o.data ≠ .cell v
  keep : ∀ i h h', tn i h -> (∀ b ∈ fp, ∀ o, h.get? b = some o -> h'.get? b = some o) -> tn i h'
  item : ∀ (X : Cx), X.prog = P -> X.w = w -> X.K = K -> X.calm = true -> ∀ (i : Nat) (pins : List (Addr × Obj)) (s : Shared) (σ : St) (H : Hp) (E : Value -> Shared -> Prop), Inv X pins σ H s -> (∀ b ∈ fp, FpOk X pins H b) -> tn i s.heap -> J.go i H ->
    wpAny (model P w) X.A (pyNext (.ref it)) (fun r s1 => ∃ u, r = some u /\
      wpAny (model P w) X.A (letOwnedTupleGo tg (.ref it) u) (fun _ s2 => ∃ x H', Inv X pins σ H' s2 /\ RelV x u /\ J.yld i H x H' /\ tn (i + 1) s2.heap /\ ∀ b ∈ fp, H' b = none) E s1) E s
  done : ∀ (X : Cx), X.prog = P -> X.w = w -> X.K = K -> X.calm = true -> ∀ (i : Nat) (pins : List (Addr × Obj)) (s : Shared) (σ : St) (H : Hp) (E : Value -> Shared -> Prop), Inv X pins σ H s -> (∀ b ∈ fp, FpOk X pins H b) -> tn i s.heap -> J.stop i H ->
    wpAny (model P w) X.A (pyNext (.ref it)) (fun r s1 => r = none /\ Inv X pins σ H s1) E s
  self : ∀ (A : Around) (i : Nat) (s : Shared) (Q : Value -> Shared -> Prop) (E : Value -> Shared -> Prop), tn i s.heap -> Q (.ref it) s -> wpAny (model P w) A (pyIter (.ref it)) Q E s
abbrev TI := St -> Hp -> (It -> Hp -> Prop) -> Prop
def PIE (X : Cx) (pins : List (Addr × Obj)) (σ : St) (tg : Expr) (R : It -> Hp -> Prop) (itv : Value) (s2 : Shared) : Prop :=
  ∃ (it : Addr) (fp : List Addr) (tn : Nat -> Heap -> Prop) (J : It) (H' : Hp), itv = .ref it /\ Inv X pins σ H' s2 /\ Turn X.prog X.w X.K tg J fp it tn /\ tn 0 s2.heap /\ (∀ b ∈ fp, FpOk X pins H' b) /\ R J H'
def PI (X : Cx) (tg iter : Expr) (wi : TI) : Prop :=
  ∀ (pins : List (Addr × Obj)) (s : Shared) (σ : St) (H : Hp) (R : It -> Hp -> Prop), Inv X pins σ H s -> wi σ H R ->
    wpAny (model X.prog X.w) X.A (eval iter X.env) (fun v s1 => wpAny (model X.prog X.w) X.A (pyIter v) (PIE X pins σ tg R) X.xe s1) X.xe s
theorem go_of {M : Model} {A : Around} {E : Value -> Shared -> Prop} {s : Shared} {tg : Expr} {it : Addr} {u : Value} {o : Obj} {n : String} {vs : Array Value} {Q : Unit -> Shared -> Prop} (ho : s.heap.get? it = some o) (hc : o.cls = .type n) (hd : o.data = .fields vs)
    (hn : ["enumerate", "zip", "dict_itemiterator", "dict_reverseitemiterator", "odict_iterator", "itertools.zip_longest", "itertools.pairwise"].contains n = false) (hQ : Q () s) : wpAny M A (letOwnedTupleGo tg (.ref it) u) Q E s := by
  unfold letOwnedTupleGo
  cases tg <;> first
    | exact wpAny_pure hQ
    | (cases u <;> first
        | exact wpAny_pure hQ
        | (refine wpAny_bind (wpAny_load ho ?_)
           rw [hc, hd]
           show wpAny M A (if (["enumerate", "zip", "dict_itemiterator", "dict_reverseitemiterator", "odict_iterator", "itertools.zip_longest", "itertools.pairwise"].contains n && vs[0]? == some (rawInt _)) = true then _ else _) Q E s
           rw [if_neg (by intro h; rw [hn, Bool.false_and] at h; cases h)]
           exact wpAny_pure hQ))
def Itl (K : PySem.W.Frag) (a : Addr) : It :=
  ⟨fun i H => ∃ xs x, SqL K H a xs /\ xs[i]? = some x, fun i H x H' => H' = H /\ ∀ xs, SqL K H a xs -> xs[i]? = some x, fun i H => ∃ xs, SqL K H a xs /\ xs.length <= i⟩
def Itt (K : PySem.W.Frag) (a : Addr) : It :=
  ⟨fun i H => ∃ xs x, SqT K H a xs /\ xs[i]? = some x, fun i H x H' => H' = H /\ ∀ xs, SqT K H a xs -> xs[i]? = some x, fun i H => ∃ xs, SqT K H a xs /\ xs.length <= i⟩
def Itr (lo : Int) (n : Nat) : It := ⟨fun i _ => i < n, fun i H x H' => H' = H /\ x = .int (lo + i), fun i _ => n <= i⟩
theorem turn_list {P : Program} {w : World} {K : PySem.W.Frag} {tg : Expr} (a it : Addr) : Turn P w K tg (Itl K a) [it] it (fun i h => h.IsListIter it a i) where
  mem := by simp
  obj := fun i h st b hb => by
    have e : b = it := by simpa using hb
    subst e
    obtain ⟨o, e, c, d⟩ := st
    exact ⟨o, e, fun v z => by rw [d] at z; cases z⟩
  keep := fun i h h' st k => st.at fun o e => k it (by simp) o e
  item := by
    intro X hP hw hK hc i pins s σ H E I hf st hg
    subst hP hw hK
    obtain ⟨xs, x, hq, hx⟩ := hg
    obtain ⟨its, rv, p, hz⟩ := I.list hq
    obtain ⟨u, hu, ru⟩ := rv.get hx
    obtain ⟨f0, f1, f2, f3, f4, f5⟩ := hf it (by simp)
    refine wpAny_pyNext_list_item st p.isList (x := u) (by simpa using hu) fun h' st' sb => ?_
    have I1 : Inv X pins σ H { s with heap := h' } := I.turned (t' := s.toks) (fun b o hb e => (sb.2 b hb).trans e) f0 f1 f3 f4 f5
    obtain ⟨o, e, c, d⟩ := id st'
    exact ⟨u, rfl, go_of (s := { s with heap := h' }) e c d (by decide) ⟨x, H, I1, ru, ⟨rfl, fun ys hy => by rw [I.list_inj hy hq]; exact hx⟩, st', fun b hb => (hf b hb).1⟩⟩
  done := by
    intro X hP hw hK hc i pins s σ H E I hf st hg
    subst hP hw hK
    obtain ⟨xs, hq, hx⟩ := hg
    obtain ⟨its, rv, p, hz⟩ := I.list hq
    obtain ⟨f0, f1, f2, f3, f4, f5⟩ := hf it (by simp)
    have hl := rv.length
    exact wpAny_pyNext_list_end (I.ok.hd hc) st p.isList (by simp; omega) fun h' eb => ⟨rfl, I.turned (t' := s.toks) (fun b o hb e => eb b o hb e) f0 f1 f3 f4 f5⟩
  self := fun _ _ _ _ _ st h => wpAny_pyIter_listiter st h
theorem turn_tuple {P : Program} {w : World} {K : PySem.W.Frag} {tg : Expr} (a it : Addr) : Turn P w K tg (Itt K a) [it] it (fun i h => h.IsTupleIter it a i) where
  mem := by simp
  obj := fun i h st b hb => by
    have e : b = it := by simpa using hb
    subst e
    obtain ⟨o, e, c, d⟩ := st
    exact ⟨o, e, fun v z => by rw [d] at z; cases z⟩
  keep := fun i h h' st k => st.at fun o e => k it (by simp) o e
  item := by
    intro X hP hw hK hc i pins s σ H E I hf st hg
    subst hP hw hK
    obtain ⟨xs, x, hq, hx⟩ := hg
    obtain ⟨its, rv, p, hz⟩ := I.tuple hq
    obtain ⟨u, hu, ru⟩ := rv.get hx
    obtain ⟨f0, f1, f2, f3, f4, f5⟩ := hf it (by simp)
    refine wpAny_pyNext_tuple_item st (show s.heap.IsTuple a its.toArray from p) (x := u) (by simpa using hu) fun h' st' sb => ?_
    have I1 : Inv X pins σ H { s with heap := h' } := I.turned (t' := s.toks) (fun b o hb e => (sb.2 b hb).trans e) f0 f1 f3 f4 f5
    obtain ⟨o, e, c, d⟩ := id st'
    exact ⟨u, rfl, go_of (s := { s with heap := h' }) e c d (by decide) ⟨x, H, I1, ru, ⟨rfl, fun ys hy => by rw [I.tuple_inj hy hq]; exact hx⟩, st', fun b hb => (hf b hb).1⟩⟩
  done := by
    intro X hP hw hK hc i pins s σ H E I hf st hg
    subst hP hw hK
    obtain ⟨xs, hq, hx⟩ := hg
    obtain ⟨its, rv, p, hz⟩ := I.tuple hq
    obtain ⟨f0, f1, f2, f3, f4, f5⟩ := hf it (by simp)
    have hl := rv.length
    exact wpAny_pyNext_tuple_end (I.ok.hd hc) st (show s.heap.IsTuple a its.toArray from p) (by simp; omega) fun h' eb => ⟨rfl, I.turned (t' := s.toks) (fun b o hb e => eb b o hb e) f0 f1 f3 f4 f5⟩
  self := fun _ _ _ _ _ st h => wpAny_pyIter_tupleiter st h
theorem turn_range {P : Program} {w : World} {K : PySem.W.Frag} {tg : Expr} (it : Addr) (lo : Int) (n : Nat) : Turn P w K tg (Itr lo n) [it] it (fun i h => IsRangeIter h it (lo + (i : Nat) * 1) ((n : Int) - (i : Nat)) 1) where
  mem := by simp
  obj := fun i h st b hb => by
    have e : b = it := by simpa using hb
    subst e
    exact ⟨_, st, fun v z => by
      have z' : Data.fields _ = Data.cell v := z
      cases z'⟩
  keep := fun i h h' st k => k it (by simp) _ st
  item := by
    intro X hP hw hK hc i pins s σ H E I hf st hg
    subst hP hw hK
    obtain ⟨f0, f1, f2, f3, f4, f5⟩ := hf it (by simp)
    have W := Walks.range (prog := X.prog) (w := X.w) (I.ok.hd hc) it lo 1 n
    refine W.item i s _ _ hg st fun v h' tk hv st' kk => ?_
    obtain ⟨t, rfl⟩ := hv
    have I1 : Inv X pins σ H { s with heap := h', toks := tk } := I.turned (fun b o hb e => kk b o (by simpa using hb) e) f0 f1 f3 f4 f5
    refine ⟨_, rfl, go_of (s := { s with heap := h', toks := tk }) (n := "range_iterator") st' rfl rfl (by decide) ⟨.int (lo + i), H, I1, ⟨t, ?_⟩, ⟨rfl, rfl⟩, st', fun b hb => (hf b hb).1⟩⟩
    rw [Int.mul_one]
  done := by
    intro X hP hw hK hc i pins s σ H E I hf st hg
    subst hP hw hK
    obtain ⟨f0, f1, f2, f3, f4, f5⟩ := hf it (by simp)
    exact wpAny_pyNext_range_end (I.ok.hd hc) st (by have : n <= i := hg; omega) fun h' eb => ⟨rfl, I.turned (t' := s.toks) (fun b o hb e => eb b o hb e) f0 f1 f3 f4 f5⟩
  self := fun _ _ _ _ _ st h => wpAny_pyIter_rangeiter st h
end L2
namespace L2
open PySem PySem.Spec PyProof.Rows
section
variable {X : Cx} {tg : Expr}
def iList (K : PySem.W.Frag) (tl : TE) : TI := fun σ H R => tl σ H fun x H1 => ∃ a, x = .ref a /\ (∃ xs, SqL K H1 a xs) /\ R (Itl K a) H1
def iTup (K : PySem.W.Frag) (tl : TE) : TI := fun σ H R => tl σ H fun x H1 => ∃ a, x = .ref a /\ (∃ xs, SqT K H1 a xs) /\ R (Itt K a) H1
theorem pi_list {l : Expr} {tl : TE} (hl : PE X l tl) : PI X tg l (iList X.K tl) := by
  intro pins s σ H R I h
  refine thn (hl pins s σ H _ I h) fun v s1 ⟨x, H1, I1, r1, q1⟩ => ?_
  obtain ⟨a, e, ⟨xs, hq⟩, q⟩ := q1
  subst e
  cases r1
  obtain ⟨its, rv, p, hz⟩ := I1.list hq
  refine wpAny_pyIter_list p.isList ?_
  refine ⟨s1.heap.objs.size, [s1.heap.objs.size], _, _, H1, rfl, I1.kept (t' := s1.toks) fun b o e => Heap.get?_push_of_some _ e, turn_list a _, ⟨_, Heap.get?_push_size _ rfl, rfl, rfl⟩, fun b hb => ?_, q⟩
  have e : b = s1.heap.objs.size := by simpa using hb
  subst e
  exact I1.fpOk (Nat.le_refl _) (I1.hok.fresh (Nat.le_refl _))
theorem pi_tup {l : Expr} {tl : TE} (hl : PE X l tl) : PI X tg l (iTup X.K tl) := by
  intro pins s σ H R I h
  refine thn (hl pins s σ H _ I h) fun v s1 ⟨x, H1, I1, r1, q1⟩ => ?_
  obtain ⟨a, e, ⟨xs, hq⟩, q⟩ := q1
  subst e
  cases r1
  obtain ⟨its, rv, p, hz⟩ := I1.tuple hq
  refine wpAny_pyIter_tuple (show s1.heap.IsTuple a its.toArray from p) ?_
  refine ⟨s1.heap.objs.size, [s1.heap.objs.size], _, _, H1, rfl, I1.kept (t' := s1.toks) fun b o e => Heap.get?_push_of_some _ e, turn_tuple a _, ⟨_, Heap.get?_push_size _ rfl, rfl, rfl⟩, fun b hb => ?_, q⟩
  have e : b = s1.heap.objs.size := by simpa using hb
  subst e
  exact I1.fpOk (Nat.le_refl _) (I1.hok.fresh (Nat.le_refl _))
theorem range_it {pins : List (Addr × Obj)} {σ : St} {H : Hp} {s : Shared} {R : It -> Hp -> Prop} {E : Value -> Shared -> Prop} {lo hi : Int} {t u v : Tok} {tk : Nat} (I : Inv X pins σ H s) (h1 : -(2 ^ 62) <= lo) (h2 : lo < 2 ^ 62) (h3 : -(2 ^ 62) <= hi) (h4 : hi < 2 ^ 62)
    (q : R (Itr lo (hi - lo).toNat) H) : wpAny (model X.prog X.w) X.A (pyIter (.ref s.heap.objs.size)) (PIE X pins σ tg R) E { s with heap := s.heap.push { cls := .type "range", data := .fields #[.int lo t, .int hi u, .int 1 v] }, toks := tk } := by
  refine wpAny_pyIter_range (IsRange.new ..) (small_one h1 h2 h3 h4) ?_
  have I1 : Inv X pins σ H { s with heap := s.heap.push { cls := .type "range", data := .fields #[.int lo t, .int hi u, .int 1 v] }, toks := tk } := I.kept fun b o e => Heap.get?_push_of_some _ e
  refine ⟨(s.heap.push { cls := .type "range", data := .fields #[.int lo t, .int hi u, .int 1 v] }).objs.size, [(s.heap.push { cls := .type "range", data := .fields #[.int lo t, .int hi u, .int 1 v] }).objs.size], _, _, H, rfl,
    I1.kept (t' := tk) fun b o e => Heap.get?_push_of_some _ e, turn_range _ lo (hi - lo).toNat, ?_, fun b hb => ?_, q⟩
  · have e1 : lo + ((0 : Nat) : Int) * 1 = lo := by simp
    have e2 : (((hi - lo).toNat : Nat) : Int) - ((0 : Nat) : Int) = Builtin.Range.rangeSize lo hi 1 := by rw [rangeSize_one]; split <;> omega
    show IsRangeIter _ _ (lo + ((0 : Nat) : Int) * 1) ((((hi - lo).toNat : Nat) : Int) - ((0 : Nat) : Int)) 1
    rw [e1, e2]
    exact Heap.get?_push_size _ rfl
  · have e : b = (s.heap.push { cls := .type "range", data := .fields #[.int lo t, .int hi u, .int 1 v] }).objs.size := by simpa using hb
    subst e
    exact I1.fpOk (Nat.le_refl _) (I1.hok.fresh (Nat.le_refl _))
def iRng1 (ta : TA) : TI := fun σ H R => ta σ H fun vs H1 => ∃ j : Int, vs = [.int j] /\ -(2 ^ 62) <= j /\ j < 2 ^ 62 /\ R (Itr 0 j.toNat) H1
theorem pi_range1 {a : Expr} {ta : TA} {p pos : Pos} (hg : Gl X "range") (hm : X.mg "range" = none) (ha : PA X [a] ta) (hs : starEach [a] X.env = [(false, eval a X.env)] := by rfl) : PI X tg (.Call (.Name "range" p) [a] [] pos) (iRng1 ta) := by
  intro pins s σ H R I h
  refine Call_ (ld_blt I hg hm boot_range (PyProof.Rows.callWith_type1 (thn (ha pos pins s σ H _ I h) fun us s1 ⟨vs, H1, I1, r1, q1⟩ => ?_) hs rfl))
  obtain ⟨j, e, q1, q2, q⟩ := q1
  subst e
  cases r1 with
  | cons r rr =>
    cases rr
    obtain ⟨t, rfl⟩ := r
    exact call_range_1 (range_it I1 (by omega) (by omega) q1 q2 (by simpa using q))
def tFor (wi : TI) (g : TG) (tb : TS) : TS := fun D σ H => wi σ H fun J H1 => ∃ W : Nat -> Nat -> St -> Hp -> Prop, (∃ m, W 0 m σ H1) /\ ∀ i m σ H, W i m σ H ->
  (J.stop i H /\ D.nx σ H) \/ (J.go i H /\ ∃ N : St -> Hp -> Prop, (∀ σ' H', N σ' H' -> ∃ m', m' < m /\ W (i + 1) m' σ' H') /\ ∀ x H', J.yld i H x H' -> g x σ H' fun σ2 H2 => tb { D with nx := N, ct := N, bk := D.nx } σ2 H2)
def pinsAt (fp : List Addr) (h : Heap) : List (Addr × Obj) := fp.filterMap fun b => (h.get? b).map fun o => (b, o)
theorem mem_pinsAt {fp : List Addr} {h : Heap} {b : Addr} {o : Obj} (hb : b ∈ fp) (e : h.get? b = some o) : (b, o) ∈ pinsAt fp h := List.mem_filterMap.mpr ⟨b, hb, by rw [e]; rfl⟩
theorem of_pinsAt {fp : List Addr} {h : Heap} {p : Addr × Obj} (hp : p ∈ pinsAt fp h) : p.1 ∈ fp /\ h.get? p.1 = some p.2 := by
  obtain ⟨b, hb, e⟩ := List.mem_filterMap.mp hp
  cases q : h.get? b with
  | none => rw [q] at e; cases e
  | some o =>
    rw [q] at e
    have e' : (b, o) = p := Option.some.inj e
    subst e'
    exact ⟨hb, q⟩
theorem Inv.pinned {pins : List (Addr × Obj)} {σ : St} {H : Hp} {s : Shared} {fp : List Addr} (I : Inv X pins σ H s) (hf : ∀ b ∈ fp, FpOk X pins H b) (ho : ∀ b ∈ fp, ∃ o, s.heap.get? b = some o /\ ∀ v, o.data ≠ .cell v) : Inv X (pins ++ pinsAt fp s.heap) σ H s :=
  I.pins_of fun p hp => (List.mem_append.mp hp).elim (fun z => I.pin p (List.mem_append_right _ z)) fun z => by
    obtain ⟨hb, e⟩ := of_pinsAt z
    obtain ⟨f0, f1, f2, _⟩ := hf p.1 hb
    obtain ⟨o, e', d⟩ := ho p.1 hb
    rw [e] at e'; cases e'
    exact ⟨e, f0, f1, f2, d⟩
theorem Inv.unpinned {pins pl : List (Addr × Obj)} {σ : St} {H : Hp} {s : Shared} (I : Inv X (pins ++ pl) σ H s) : Inv X pins σ H s := I.pins_of fun p hp => I.pin p (List.mem_append_right _ (List.mem_append_left _ hp))
theorem ps_for {iter : Expr} {body : List Stmt} {wi : TI} {g : TG} {tb : TS} {pos : Pos} (hp : PassesOwn (model X.prog X.w) X.A X.env X.xe) (hc : X.calm = true) (hi : PI X tg iter wi) (hg : PG X tg g) (hb : PSs X body tb)
    (hs : ∀ x, foldedSetIterable iter X.env x = pure x := by intro _; rfl) : PS X (.For tg iter body [] pos) (tFor wi g tb) := by
  intro pins s σ H D I h
  refine wpAny_For (thn (hi pins s σ H _ I h) fun v s1 h1 => thn h1 fun itv s2 h2 => ?_) hs
  obtain ⟨it, fp, tn, J, H2, e, I2, T, st2, f2, W, ⟨m0, w0⟩, turn⟩ := h2
  subst e
  -- what stays true of the iterator's objects through the loop
  have stat : ∀ {H' : Hp}, (∀ b ∈ fp, H' b = none) -> ∀ b ∈ fp, FpOk X pins H' b := fun hn b hb => ⟨hn b hb, (f2 b hb).2⟩
  refine codeAny_forLoop_any (fun n s' => ∃ i σ' H', Inv X pins σ' H' s' /\ tn i s'.heap /\ (∀ b ∈ fp, H' b = none) /\ W i n σ' H') ?_ m0 ⟨0, σ, H2, I2, st2, fun b hb => (f2 b hb).1, w0⟩
  rintro n s3 ⟨i, σ3, H3, I3, st3, fr3, w3⟩
  rcases turn i n σ3 H3 w3 with ⟨stop, qn⟩ | ⟨go, N, hN, step⟩
  · refine wpAny_passesOwn hp (thn (T.done X rfl rfl rfl hc i pins s3 σ3 H3 X.xe I3 (stat fr3) st3 stop) fun r s4 ⟨hr, I4⟩ => ?_)
    subst hr
    exact wpAny_execs_nil ⟨σ3, H3, I4, qn⟩
  · refine wpAny_passesOwn hp (thn (T.item X rfl rfl rfl hc i pins s3 σ3 H3 X.xe I3 (stat fr3) st3 go) fun r s4 ⟨u, hr, h4⟩ => ?_)
    subst hr
    refine wpAny_passesOwn hp (thn h4 fun _ s5 ⟨x, H5, I5, r5, y5, st5, fr5⟩ => ?_)
    have I5' := I5.pinned (stat fr5) (T.obj _ _ st5)
    refine wpAny_passesOwn hp (thn (hg _ s5 σ3 H5 x u _ I5' r5 (step x H5 y5)) fun _ s6 ⟨σ6, H6, I6, q6⟩ => ?_)
    refine wpAny_passesOwn hp (thn (hb _ s6 σ6 H6 _ I6 q6) fun f s7 q7 => ?_)
    have again : ∀ {σ7 : St} {H7 : Hp}, Inv X (pins ++ pinsAt fp s5.heap) σ7 H7 s7 -> N σ7 H7 -> ∃ m, m < n /\ ∃ i σ' H', Inv X pins σ' H' s7 /\ tn i s7.heap /\ (∀ b ∈ fp, H' b = none) /\ W i m σ' H' := fun {σ7 H7} I7 n7 => by
      obtain ⟨m', hm, w7⟩ := hN σ7 H7 n7
      refine ⟨m', hm, i + 1, σ7, H7, I7.unpinned, T.keep _ _ _ st5 fun b hb o e => (I7.pin (b, o) (List.mem_append_right _ (List.mem_append_right _ (mem_pinsAt hb e)))).1, fun b hb => ?_, w7⟩
      obtain ⟨o, e, d⟩ := T.obj _ _ st5 b hb
      exact (I7.pin (b, o) (List.mem_append_right _ (List.mem_append_right _ (mem_pinsAt hb e)))).2.1
    cases f with
    | next => obtain ⟨σ7, H7, I7, n7⟩ := q7; exact again I7 n7
    | cont => obtain ⟨σ7, H7, I7, n7⟩ := q7; exact again I7 n7
    | brk => obtain ⟨σ7, H7, I7, q7⟩ := q7; exact ⟨σ7, H7, I7.unpinned, q7⟩
    | ret v => obtain ⟨x7, σ7, H7, I7, r7, q7⟩ := q7; exact ⟨x7, σ7, H7, I7.unpinned, r7, q7⟩
end
theorem for_list {K : PySem.W.Frag} {a : Addr} {xs : List V} {g : TG} {tb : TS} {D : Ends} {σ : St} {H : Hp} (Pv : Nat -> St -> Hp -> Prop) (h0 : Pv 0 σ H) (hl : ∀ i σ H, i <= xs.length -> Pv i σ H -> SqL K H a xs)
    (hs : ∀ i x σ H, xs[i]? = some x -> Pv i σ H -> g x σ H fun σ2 H2 => tb { D with nx := Pv (i + 1), ct := Pv (i + 1), bk := D.nx } σ2 H2) (hd : ∀ σ H, Pv xs.length σ H -> D.nx σ H) :
    ∃ W : Nat -> Nat -> St -> Hp -> Prop, (∃ m, W 0 m σ H) /\ ∀ i m σ H, W i m σ H ->
      ((Itl K a).stop i H /\ D.nx σ H) \/ ((Itl K a).go i H /\ ∃ N : St -> Hp -> Prop, (∀ σ' H', N σ' H' -> ∃ m', m' < m /\ W (i + 1) m' σ' H') /\ ∀ x H', (Itl K a).yld i H x H' -> g x σ H' fun σ2 H2 => tb { D with nx := N, ct := N, bk := D.nx } σ2 H2) := by
  refine ⟨fun i m σ H => m = xs.length - i /\ i <= xs.length /\ Pv i σ H, ⟨xs.length, by simp, Nat.zero_le _, h0⟩, ?_⟩
  rintro i m σ H ⟨rfl, hi, p⟩
  have q := hl i σ H hi p
  by_cases hlt : i < xs.length
  · refine .inr ⟨⟨xs, xs[i], q, by simp [hlt]⟩, Pv (i + 1), fun σ' H' p' => ⟨xs.length - (i + 1), by omega, rfl, hlt, p'⟩, fun x H' y => ?_⟩
    obtain ⟨e, y⟩ := y
    subst e
    exact hs i x σ _ (y xs q) p
  · have e : i = xs.length := by omega
    subst e
    exact .inl ⟨⟨xs, q, Nat.le_refl _⟩, hd σ H p⟩
theorem for_range {lo : Int} {n : Nat} {g : TG} {tb : TS} {D : Ends} {σ : St} {H : Hp} (Pv : Nat -> St -> Hp -> Prop) (h0 : Pv 0 σ H)
    (hs : ∀ i σ H, i < n -> Pv i σ H -> g (.int (lo + i)) σ H fun σ2 H2 => tb { D with nx := Pv (i + 1), ct := Pv (i + 1), bk := D.nx } σ2 H2) (hd : ∀ σ H, Pv n σ H -> D.nx σ H) :
    ∃ W : Nat -> Nat -> St -> Hp -> Prop, (∃ m, W 0 m σ H) /\ ∀ i m σ H, W i m σ H ->
      ((Itr lo n).stop i H /\ D.nx σ H) \/ ((Itr lo n).go i H /\ ∃ N : St -> Hp -> Prop, (∀ σ' H', N σ' H' -> ∃ m', m' < m /\ W (i + 1) m' σ' H') /\ ∀ x H', (Itr lo n).yld i H x H' -> g x σ H' fun σ2 H2 => tb { D with nx := N, ct := N, bk := D.nx } σ2 H2) := by
  refine ⟨fun i m σ H => m = n - i /\ i <= n /\ Pv i σ H, ⟨n, by simp, Nat.zero_le _, h0⟩, ?_⟩
  rintro i m σ H ⟨rfl, hi, p⟩
  by_cases hlt : i < n
  · refine .inr ⟨hlt, Pv (i + 1), fun σ' H' p' => ⟨n - (i + 1), by omega, rfl, hlt, p'⟩, fun x H' y => ?_⟩
    obtain ⟨e, y⟩ := y
    subst e y
    exact hs i σ _ hlt p
  · have e : i = n := by omega
    subst e
    exact .inl ⟨Nat.le_refl _, hd σ H p⟩
theorem while_by {c : TT} {tb : TS} {D : Ends} {σ : St} {H : Hp} (Pv : St -> Hp -> Prop) (μ : St -> Hp -> Nat) (h0 : Pv σ H)
    (hs : ∀ σ H, Pv σ H -> c σ H fun b H1 => if b = true then tb { D with nx := fun σ' H' => Pv σ' H' /\ μ σ' H' < μ σ H, ct := fun σ' H' => Pv σ' H' /\ μ σ' H' < μ σ H, bk := D.nx } σ H1 else D.nx σ H1)
    (mono : ∀ σ H Q Q', (∀ b H1, Q b H1 -> Q' b H1) -> c σ H Q -> c σ H Q') : tWhile c tb D σ H := by
  refine ⟨fun m σ H => m = μ σ H /\ Pv σ H, ⟨_, rfl, h0⟩, ?_⟩
  rintro m σ H ⟨rfl, p⟩
  refine mono σ H _ _ (fun b H1 q => ?_) (hs σ H p)
  cases b with
  | true => exact ⟨_, fun σ' H' ⟨p', l⟩ => ⟨_, l, rfl, p'⟩, q⟩
  | false => exact q
end L2
namespace L2
open PySem PySem.Spec PyProof.Rows
abbrev R2 := V -> V -> Hp -> VK -> Prop
def OpR (X : Cx) (f : Value -> Value -> Sem Value) (r : R2) : Prop :=
  ∀ (pins : List (Addr × Obj)) (s : Shared) (σ : St) (H : Hp) (x y : V) (v u : Value) (Q : VK), Inv X pins σ H s -> RelV x v -> RelV y u -> r x y H Q ->
    wpAny (model X.prog X.w) X.A (f v u) (EP X pins σ Q) X.xe s
def UnR (X : Cx) (f : Value -> Sem Value) (r : V -> Hp -> VK -> Prop) : Prop :=
  ∀ (pins : List (Addr × Obj)) (s : Shared) (σ : St) (H : Hp) (x : V) (v : Value) (Q : VK), Inv X pins σ H s -> RelV x v -> r x H Q ->
    wpAny (model X.prog X.w) X.A (f v) (EP X pins σ Q) X.xe s
def CallR (X : Cx) (f : Value) (r : List V -> Hp -> VK -> Prop) : Prop :=
  ∀ (pins : List (Addr × Obj)) (s : Shared) (σ : St) (H : Hp) (xs : List V) (us : List Value) (Q : VK), Inv X pins σ H s -> Vals xs us -> r xs H Q ->
    wpAny (model X.prog X.w) X.A (call f us) (EP X pins σ Q) X.xe s
def tOp (r : R2) (ta tb : TE) : TE := fun σ H Q => ta σ H fun x H1 => tb σ H1 fun y H2 => r x y H2 Q
def tUn (r : V -> Hp -> VK -> Prop) (ta : TE) : TE := fun σ H Q => ta σ H fun x H1 => r x H1 Q
def rI (C : Int -> Int -> Prop) (g : Int -> Int -> V) : R2 := fun x y H Q => ∃ i j, x = .int i /\ y = .int j /\ C i j /\ Q (g i j) H
def rI0 (g : Int -> Int -> V) : R2 := fun x y H Q => ∃ i j, x = .int i /\ y = .int j /\ Q (g i j) H
def rU (g : Int -> V) : V -> Hp -> VK -> Prop := fun x H Q => ∃ i, x = .int i /\ Q (g i) H
section
variable {X : Cx} {a b c : Expr} {ta tb tc : TE} {pos : Pos}
theorem binT (ha : PE X a ta) (hb : PE X b tb) {pins : List (Addr × Obj)} {s : Shared} {σ : St} {H : Hp} {R : V -> V -> Hp -> Prop} (I : Inv X pins σ H s)
    (h : ta σ H fun x H1 => tb σ H1 fun y H2 => R x y H2) {Q : Value -> Shared -> Prop} {f : Value -> Value -> Sem Value}
    (hf : ∀ v u s2 x y H2, Inv X pins σ H2 s2 -> RelV x v -> RelV y u -> R x y H2 -> wpAny (model X.prog X.w) X.A (f v u) Q X.xe s2) :
    wpAny (model X.prog X.w) X.A (eval a X.env) (fun v s₁ => wpAny (model X.prog X.w) X.A (eval b X.env) (fun u s₂ => wpAny (model X.prog X.w) X.A (f v u) Q X.xe s₂) X.xe s₁) X.xe s := by
  refine thn (ha pins s σ H _ I h) fun v s1 ⟨x, H1, I1, r1, q1⟩ => ?_
  refine thn (hb pins s1 σ H1 _ I1 q1) fun u s2 ⟨y, H2, I2, r2, q2⟩ => ?_
  exact hf v u s2 x y H2 I2 r1 r2 q2
theorem pe_op {op : Operator} {r : R2} (ho : OpR X (binaryOp op) r) (ha : PE X a ta) (hb : PE X b tb) : PE X (.BinOp a op b pos) (tOp r ta tb) := by
  intro pins s σ H Q I h
  exact wpAny_BinOp (binT ha hb I h fun v u s2 x y H2 I2 rx ry q => ho pins s2 σ H2 x y v u Q I2 rx ry q)
theorem pe_un {op : UnaryOp} {r : V -> Hp -> VK -> Prop} (ho : UnR X (unaryOp op) r) (ha : PE X a ta) : PE X (.UnaryOp op a pos) (tUn r ta) := by
  intro pins s σ H Q I h
  exact UnaryOp_ (thn (ha pins s σ H _ I h) fun v s1 ⟨x, H1, I1, r1, q1⟩ => ho pins s1 σ H1 x v Q I1 r1 q1)
theorem opI {f : Value -> Value -> Sem Value} {C : Int -> Int -> Prop} {g : Int -> Int -> Int}
    (rule : ∀ (i j : Int) (t u : Tok) (s : Shared) (Q : Value -> Shared -> Prop) (E : Value -> Shared -> Prop), C i j -> Q (.int (g i j) s.toks) { s with toks := s.toks + 1 } -> wpAny (model X.prog X.w) X.A (f (.int i t) (.int j u)) Q E s) :
    OpR X f (rI C fun i j => .int (g i j)) := by
  intro pins s σ H x y v u Q I rx ry h
  obtain ⟨i, j, rfl, rfl, hc, q⟩ := h
  obtain ⟨t, rfl⟩ := rx
  obtain ⟨t', rfl⟩ := ry
  exact rule i j t t' s _ _ hc ⟨.int (g i j), H, I.tok _, ⟨_, rfl⟩, q⟩
theorem opI0 {f : Value -> Value -> Sem Value} {g : Int -> Int -> Int}
    (rule : ∀ (i j : Int) (t u : Tok) (s : Shared) (Q : Value -> Shared -> Prop) (E : Value -> Shared -> Prop), Q (.int (g i j) s.toks) { s with toks := s.toks + 1 } -> wpAny (model X.prog X.w) X.A (f (.int i t) (.int j u)) Q E s) :
    OpR X f (rI0 fun i j => .int (g i j)) := by
  intro pins s σ H x y v u Q I rx ry h
  obtain ⟨i, j, rfl, rfl, q⟩ := h
  obtain ⟨t, rfl⟩ := rx
  obtain ⟨t', rfl⟩ := ry
  exact rule i j t t' s _ _ ⟨.int (g i j), H, I.tok _, ⟨_, rfl⟩, q⟩
theorem opB0 {f : Value -> Value -> Sem Value} {g : Int -> Int -> Bool}
    (rule : ∀ (i j : Int) (t u : Tok) (s : Shared) (Q : Value -> Shared -> Prop) (E : Value -> Shared -> Prop), Q (.bool (g i j)) s -> wpAny (model X.prog X.w) X.A (f (.int i t) (.int j u)) Q E s) :
    OpR X f (rI0 fun i j => .bl (g i j)) := by
  intro pins s σ H x y v u Q I rx ry h
  obtain ⟨i, j, rfl, rfl, q⟩ := h
  obtain ⟨t, rfl⟩ := rx
  obtain ⟨t', rfl⟩ := ry
  exact rule i j t t' s _ _ ⟨.bl (g i j), H, I, rfl, q⟩
def CDiv (i j : Int) : Prop := 0 < j /\ j < 1073741824
def CPow (i j : Int) : Prop := 0 <= j /\ j <= 1000000 /\ i.natAbs < 2 ^ 64
theorem op_add : OpR X (binaryOp .Add) (rI0 fun i j => .int (i + j)) := opI0 fun _ _ _ _ _ _ _ q => add_int q
theorem op_sub : OpR X (binaryOp .Sub) (rI0 fun i j => .int (i - j)) := opI0 fun _ _ _ _ _ _ _ q => sub_int q
theorem op_mod : OpR X (binaryOp .Mod) (rI (fun _ j => 0 < j) fun i j => .int (i % j)) := opI fun i j _ _ _ _ _ hc q => by
  have h1 : (0 : Int) < j := hc
  exact mod_int' (by omega) (by rw [Int.fmod_eq_emod_of_nonneg i (by omega)]; exact q)
theorem op_pow : OpR X (binaryOp .Pow) (rI CPow fun i j => .int (i ^ j.toNat)) := opI fun _ _ _ _ _ _ _ hc q => pow_int_small hc.1 hc.2.1 hc.2.2 q
theorem unI {f : Value -> Sem Value} {g : Int -> Int}
    (rule : ∀ (i : Int) (t : Tok) (s : Shared) (Q : Value -> Shared -> Prop) (E : Value -> Shared -> Prop), Q (.int (g i) s.toks) { s with toks := s.toks + 1 } -> wpAny (model X.prog X.w) X.A (f (.int i t)) Q E s) :
    UnR X f (rU fun i => .int (g i)) := by
  intro pins s σ H x v Q I rx h
  obtain ⟨i, rfl, q⟩ := h
  obtain ⟨t, rfl⟩ := rx
  exact rule i t s _ _ ⟨.int (g i), H, I.tok _, ⟨_, rfl⟩, q⟩
theorem un_neg : UnR X (unaryOp .USub) (rU fun i => .int (-i)) := unI fun _ _ _ _ _ q => neg_int q
end
def scal : V -> V -> Bool
  | .non, .non => true | .non, .int _ => true | .int _, .non => true | .non, .bl _ => true | .bl _, .non => true | .non, .str _ => true | .str _, .non => true
  | .int _, .int _ => true | .bl _, .bl _ => true | .str _, .str _ => true | .byt _, .byt _ => true
  | .int _, .str _ => true | .str _, .int _ => true | .bl _, .str _ => true | .str _, .bl _ => true
  | _, _ => false
def rEq : R2 := fun x y H Q => scal x y = true /\ Q (.bl (decide (x = y))) H
def rNe : R2 := fun x y H Q => scal x y = true /\ Q (.bl (!decide (x = y))) H
theorem dec_int {i j : Int} : decide (V.int i = V.int j) = (i == j) := by
  rw [Bool.eq_iff_iff]
  simp
theorem dec_bl {i j : Bool} : decide (V.bl i = V.bl j) = (i == j) := by
  rw [Bool.eq_iff_iff]
  simp
theorem dec_str {i j : Str} : decide (V.str i = V.str j) = (i == j) := by
  rw [Bool.eq_iff_iff]
  simp
theorem dec_byt {i j : Array UInt8} : decide (V.byt i = V.byt j) = (i.toList == j.toList) := by
  rw [Bool.eq_iff_iff]
  cases i
  cases j
  simp
section
variable {X : Cx} {a b c : Expr} {ta tb tc : TE} {pos : Pos}
theorem fin_bl {pins : List (Addr × Obj)} {σ : St} {H : Hp} {s : Shared} {Q : VK} {k k' : Bool} (I : Inv X pins σ H s) (q : Q (.bl k) H) (e : k = k') : EP X pins σ Q (.bool k') s := by
  subst e
  exact ⟨.bl k, H, I, rfl, q⟩
theorem op_eq : OpR X (compareOp .Eq) rEq := by
  intro pins s σ H x y v u Q I rx ry h
  obtain ⟨hs, q⟩ := h
  cases x with
  | non =>
    cases rx
    cases y with
    | non => cases ry; exact PySem.EqNone.eq_none_none (fin_bl I q (by simp))
    | bl j => cases ry; exact PySem.EqNone.eq_none_bool (fin_bl I q (by simp))
    | int j => obtain ⟨t', rfl⟩ := ry; exact PySem.EqNone.eq_none_int (fin_bl I q (by simp))
    | str j => obtain ⟨t', rfl⟩ := ry; exact PySem.EqNone.eq_none_str (fin_bl I q (by simp))
    | _ => exact absurd (show false = true from hs) Bool.false_ne_true
  | bl i =>
    cases rx
    cases y with
    | non => cases ry; exact PySem.EqNone.eq_bool_none (fin_bl I q (by simp))
    | bl j => cases ry; exact eq_bool (fin_bl I q dec_bl)
    | str j => obtain ⟨t', rfl⟩ := ry; exact PySem.EqMixed.eq_bool_str (fin_bl I q (by simp))
    | _ => exact absurd (show false = true from hs) Bool.false_ne_true
  | int i =>
    obtain ⟨t, rfl⟩ := rx
    cases y with
    | non => cases ry; exact PySem.EqNone.eq_int_none (fin_bl I q (by simp))
    | int j => obtain ⟨t', rfl⟩ := ry; exact eq_int (fin_bl I q dec_int)
    | str j => obtain ⟨t', rfl⟩ := ry; exact PySem.EqMixed.eq_int_str (fin_bl I q (by simp))
    | _ => exact absurd (show false = true from hs) Bool.false_ne_true
  | str i =>
    obtain ⟨t, rfl⟩ := rx
    cases y with
    | non => cases ry; exact PySem.EqNone.eq_str_none (fin_bl I q (by simp))
    | bl j => cases ry; exact PySem.EqMixed.eq_str_bool (fin_bl I q (by simp))
    | int j => obtain ⟨t', rfl⟩ := ry; exact PySem.EqMixed.eq_str_int (fin_bl I q (by simp))
    | str j => obtain ⟨t', rfl⟩ := ry; exact eq_str (fin_bl I q dec_str)
    | _ => exact absurd (show false = true from hs) Bool.false_ne_true
  | byt i =>
    obtain ⟨t, rfl⟩ := rx
    cases y with
    | byt j => obtain ⟨t', rfl⟩ := ry; exact PySem.W.eq_bytes (fin_bl I q dec_byt)
    | _ => exact absurd (show false = true from hs) Bool.false_ne_true
  | _ => cases y <;> exact absurd (show false = true from hs) Bool.false_ne_true
theorem op_ne : OpR X (compareOp .NotEq) rNe := by
  intro pins s σ H x y v u Q I rx ry h
  obtain ⟨hs, q⟩ := h
  cases x with
  | non =>
    cases rx
    cases y with
    | non => cases ry; exact PySem.EqNone.ne_none_none (fin_bl I q (by simp))
    | bl j => cases ry; exact PySem.EqNone.ne_none_bool (fin_bl I q (by simp))
    | int j => obtain ⟨t', rfl⟩ := ry; exact PySem.EqNone.ne_none_int (fin_bl I q (by simp))
    | str j => obtain ⟨t', rfl⟩ := ry; exact PySem.EqNone.ne_none_str (fin_bl I q (by simp))
    | _ => exact absurd (show false = true from hs) Bool.false_ne_true
  | bl i =>
    cases rx
    cases y with
    | non => cases ry; exact PySem.EqNone.ne_bool_none (fin_bl I q (by simp))
    | bl j => cases ry; exact ne_bool (fin_bl I q (congrArg not dec_bl))
    | str j => obtain ⟨t', rfl⟩ := ry; exact PySem.EqMixed.ne_bool_str (fin_bl I q (by simp))
    | _ => exact absurd (show false = true from hs) Bool.false_ne_true
  | int i =>
    obtain ⟨t, rfl⟩ := rx
    cases y with
    | non => cases ry; exact PySem.EqNone.ne_int_none (fin_bl I q (by simp))
    | int j => obtain ⟨t', rfl⟩ := ry; exact ne_int (fin_bl I q (congrArg not dec_int))
    | str j => obtain ⟨t', rfl⟩ := ry; exact PySem.EqMixed.ne_int_str (fin_bl I q (by simp))
    | _ => exact absurd (show false = true from hs) Bool.false_ne_true
  | str i =>
    obtain ⟨t, rfl⟩ := rx
    cases y with
    | non => cases ry; exact PySem.EqNone.ne_str_none (fin_bl I q (by simp))
    | bl j => cases ry; exact PySem.EqMixed.ne_str_bool (fin_bl I q (by simp))
    | int j => obtain ⟨t', rfl⟩ := ry; exact PySem.EqMixed.ne_str_int (fin_bl I q (by simp))
    | str j => obtain ⟨t', rfl⟩ := ry; exact ne_str (fin_bl I q (congrArg not dec_str))
    | _ => exact absurd (show false = true from hs) Bool.false_ne_true
  | byt i =>
    obtain ⟨t, rfl⟩ := rx
    cases y with
    | byt j => obtain ⟨t', rfl⟩ := ry; exact PySem.W.ne_bytes (fin_bl I q (congrArg not dec_byt))
    | _ => exact absurd (show false = true from hs) Bool.false_ne_true
  | _ => cases y <;> exact absurd (show false = true from hs) Bool.false_ne_true
theorem op_lt : OpR X (compareOp .Lt) (rI0 fun i j => .bl (decide (i < j))) := opB0 fun _ _ _ _ _ _ _ q => lt_int q
theorem op_le : OpR X (compareOp .LtE) (rI0 fun i j => .bl (decide (i <= j))) := opB0 fun _ _ _ _ _ _ _ q => le_int q
theorem op_gt : OpR X (compareOp .Gt) (rI0 fun i j => .bl (decide (j < i))) := opB0 fun _ _ _ _ _ _ _ q => gt_int q
theorem op_ge : OpR X (compareOp .GtE) (rI0 fun i j => .bl (decide (j <= i))) := opB0 fun _ _ _ _ _ _ _ q => ge_int q
theorem op_in_str : OpR X (compareOp .In) (fun x y H Q => ∃ i j, x = .str i /\ y = .str j /\ Q (.bl (!(Builtin.Str.occurrences j i 0 j.length 1).isEmpty)) H) := by
  intro pins s σ H x y v u Q I rx ry h
  obtain ⟨i, j, rfl, rfl, q⟩ := h
  obtain ⟨t, rfl⟩ := rx
  obtain ⟨t', rfl⟩ := ry
  exact in_str (fin_bl I q rfl)
theorem op_isN : OpR X (compareOp .Is) (fun x y H Q => y = .non /\ Q (.bl (decide (x = .non))) H) := by
  intro pins s σ H x y v u Q I rx ry h
  obtain ⟨rfl, q⟩ := h
  cases ry
  refine is_none_gen (fin_bl I q ?_)
  cases x <;> first
    | (cases rx; rfl)
    | (obtain ⟨t, rfl⟩ := rx; rfl)
theorem op_notN : OpR X (compareOp .IsNot) (fun x y H Q => y = .non /\ Q (.bl (!decide (x = .non))) H) := by
  intro pins s σ H x y v u Q I rx ry h
  obtain ⟨rfl, q⟩ := h
  cases ry
  refine isnot_none_gen (fin_bl I q ?_)
  cases x <;> first
    | (cases rx; rfl)
    | (obtain ⟨t, rfl⟩ := rx; rfl)
theorem op_notin_str : OpR X (compareOp .NotIn) (fun x y H Q => ∃ i j, x = .str i /\ y = .str j /\ Q (.bl (!(!(Builtin.Str.occurrences j i 0 j.length 1).isEmpty))) H) := by
  intro pins s σ H x y v u Q I rx ry h
  obtain ⟨i, j, rfl, rfl, q⟩ := h
  obtain ⟨t, rfl⟩ := rx
  obtain ⟨t', rfl⟩ := ry
  exact notIn_str (fin_bl I q rfl)
theorem nomark (b : Expr) {op : CmpOp} (h : op ≠ .In := by decide) (h2 : op ≠ .NotIn := by decide) : behindInMarks op b = false := by
  have e1 : (op == CmpOp.In) = false := by cases op <;> first | rfl | exact absurd rfl h
  have e2 : (op == CmpOp.NotIn) = false := by cases op <;> first | rfl | exact absurd rfl h2
  cases b <;> simp [behindInMarks, e1, e2]
theorem pe_cmpR {op : CmpOp} {r : R2} (ho : OpR X (compareOp op) r) (ha : PE X a ta) (hb : PE X b tb) (hm : behindInMarks op b = false) : PE X (.Compare a [op] [b] pos) (tOp r ta tb) := by
  intro pins s σ H Q I h
  exact wpAny_Compare1 (binT ha hb I h fun v u s2 x y H2 I2 rx ry q => ho pins s2 σ H2 x y v u Q I2 rx ry q) hm
def tTest (t : TE) : TT := fun σ H Q => t σ H fun x H' => ∃ k, x = .bl k /\ Q k H'
theorem pt_cmpR {op : CmpOp} {r : R2} (ho : OpR X (compareOp op) r) (ha : PE X a ta) (hb : PE X b tb) (hm : behindInMarks op b = false) : PT X (.Compare a [op] [b] pos) (tTest (tOp r ta tb)) := by
  intro pins s σ H Q I h
  refine wpAny_isTrue_Compare1 (thn (ha pins s σ H _ I h) fun v s1 ⟨x, H1, I1, r1, q1⟩ => thn (hb pins s1 σ H1 _ I1 q1) fun u s2 ⟨y, H2, I2, r2, q2⟩ =>
    thn (ho pins s2 σ H2 x y v u _ I2 r1 r2 q2) fun c s3 ⟨z, H3, I3, r3, k, e, q3⟩ => ?_) hm
  subst e
  cases r3
  exact wpAny_truthy_bool ⟨H3, I3, q3⟩
def tChain (r r' : R2) (ta tb tc : TE) : TE := fun σ H Q => ta σ H fun x H1 => tb σ H1 fun y H2 => r x y H2 fun z H3 => ∃ k, z = .bl k /\
  (if k = true then tc σ H3 fun w' H4 => r' y w' H4 Q else Q (.bl false) H3)
theorem pt_chain {op op' : CmpOp} {r r' : R2} (ho : OpR X (compareOp op) r) (ho' : OpR X (compareOp op') r') (ha : PE X a ta) (hb : PE X b tb) (hc : PE X c tc)
    (hm : lastMarks [op, op'] [b, c] = false := by with_unfolding_all rfl) : PT X (.Compare a [op, op'] [b, c] pos) (tTest (tChain r r' ta tb tc)) := by
  intro pins s σ H Q I h
  refine isTrue_chain (thn (ha pins s σ H _ I h) fun v s1 ⟨x, H1, I1, r1, q1⟩ => test_link (thn (hb pins s1 σ H1 _ I1 q1) fun u s2 ⟨y, H2, I2, r2, q2⟩ =>
    thn (ho pins s2 σ H2 x y v u _ I2 r1 r2 q2) fun d s3 ⟨z, H3, I3, r3, k, e, q3⟩ => ?_)) hm
  subst e
  cases r3
  refine wpAny_truthy_bool ?_
  cases k with
  | false =>
    obtain ⟨k', e', q'⟩ := q3
    cases e'
    exact ite_ff ⟨H3, I3, q'⟩
  | true =>
    refine ite_tt (test_last (thn (hc pins s3 σ H3 _ I3 q3) fun w' s4 ⟨z', H4, I4, r4, q4⟩ => thn (ho' pins s4 σ H4 y z' u w' _ I4 r2 r4 q4) fun d' s5 ⟨z2, H5, I5, r5, k2, e2, q5⟩ => ?_))
    subst e2
    cases r5
    exact wpAny_truthy_bool ⟨H5, I5, q5⟩
theorem line63 : (sizeLine : Nat) < 2 ^ 63 := by rw [sizeLine_eq]; decide
theorem op_add_str : OpR X (binaryOp .Add) (fun x y H Q => ∃ i j, x = .str i /\ y = .str j /\ i.length + j.length <= sizeLine /\ Q (.str (i ++ j)) H) := by
  intro pins s σ H x y v u Q I rx ry h
  obtain ⟨i, j, rfl, rfl, hz, q⟩ := h
  obtain ⟨t, rfl⟩ := rx
  obtain ⟨t', rfl⟩ := ry
  exact add_str (fun t' tk => ⟨.str (i ++ j), H, I.tok _, ⟨_, rfl⟩, q⟩) hz
theorem vals1 {x : V} {us : List Value} (r : Vals [x] us) : ∃ u, us = [u] /\ RelV x u := by
  cases r with
  | cons r1 r2 => cases r2; exact ⟨_, rfl, r1⟩
theorem vals2 {x y : V} {us : List Value} (r : Vals [x, y] us) : ∃ u w', us = [u, w'] /\ RelV x u /\ RelV y w' := by
  cases r with
  | cons r1 r2 =>
    cases r2 with
    | cons r3 r4 => cases r4; exact ⟨_, _, rfl, r1, r3⟩
theorem call_abs : CallR X (.builtin "abs") (fun xs H Q => ∃ i, xs = [.int i] /\ Q (.int (if i < 0 then -i else i)) H) := by
  intro pins s σ H xs us Q I r h
  obtain ⟨i, rfl, q⟩ := h
  obtain ⟨u, rfl, t, rfl⟩ := vals1 r
  exact call_abs_int fun u tk => ⟨.int (if i < 0 then -i else i), H, I.tok _, ⟨_, rfl⟩, q⟩
theorem call_int1 : CallR X (.type "int") (fun xs H Q => (∃ i, xs = [.int i] /\ Q (.int i) H) \/ ∃ k, xs = [.bl k] /\ Q (.int (if k then 1 else 0)) H) := by
  intro pins s σ H xs us Q I r h
  rcases h with ⟨i, rfl, q⟩ | ⟨k, rfl, q⟩
  · obtain ⟨u, rfl, t, rfl⟩ := vals1 r
    exact call_int_int ⟨.int i, H, I, ⟨_, rfl⟩, q⟩
  · obtain ⟨u, rfl, r1⟩ := vals1 r
    cases r1
    exact call_int_bool ⟨.int (if k then 1 else 0), H, I.tok _, ⟨_, rfl⟩, q⟩
theorem call_str_int : CallR X (.type "str") (fun xs H Q => ∃ i, xs = [.int i] /\ i.natAbs.log2 < 1920 /\ Q (.str (toString i)) H) := by
  intro pins s σ H xs us Q I r h
  obtain ⟨i, rfl, hz, q⟩ := h
  obtain ⟨u, rfl, t, rfl⟩ := vals1 r
  exact PySem.P.str_of_int hz ⟨.str _, H, I.tok _, ⟨_, rfl⟩, q⟩
theorem call_divmod : CallR X (.builtin "divmod") (fun xs H Q => ∃ i j, xs = [.int i, .int j] /\ CDiv i j /\ ∀ p, H p = none -> Q (.ref p) (upd H p (.tup [.int (i / j), .int (i % j)]))) := by
  intro pins s σ H xs us Q I r h
  obtain ⟨i, j, rfl, ⟨h1, h2⟩, q⟩ := h
  obtain ⟨u, w', rfl, ⟨t, rfl⟩, ⟨t', rfl⟩⟩ := vals2 r
  refine divmod_int (by omega) ?_ (.inl (PyProof.noPylong_small (by omega)))
  rw [Int.fdiv_eq_ediv_of_nonneg i (by omega), Int.fmod_eq_emod_of_nonneg i (by omega)]
  have hn : H s.heap.objs.size = none := I.hok.fresh (Nat.le_refl _)
  refine ⟨.ref s.heap.objs.size, _, ?_, rfl, q _ hn⟩
  refine I.laid (fun b o e => Heap.get?_push_of_some _ e) (Nat.le_refl _) ⟨by simp only [List.length_cons, List.length_nil]; rw [sizeLine_eq]; decide, [.int (i / j) s.toks, .int (i % j) (s.toks + 1)], .cons ⟨_, rfl⟩ (.cons ⟨_, rfl⟩ .nil), ?_⟩
  exact ⟨_, Heap.get?_push_size s.heap rfl, rfl, 0, rfl⟩
end
end L2
namespace L2
open PySem PySem.Spec PyProof.Rows
structure ObjM (h : Heap) (x dx C : Addr) (mA : Str -> Option Value) : Prop where
  obj : h.get? x = some (PySem.W.instObj C dx)
  ns : h.Ns1 dx mA
  ne : dx ≠ x
theorem lookIn_ns {h : Heap} {dx : Addr} {mA : Str -> Option Value} (n : h.Ns1 dx mA) : ∃ od, h.get? dx = some od /\ ∀ name, PySem.W.lookIn name od = some (mA name) := by
  obtain ⟨o, es, ep, ho, hd, hk, _, hm⟩ := n
  refine ⟨o, ho, fun name => ?_⟩
  have e := hm name
  unfold nsFind findBy at e
  rw [<- Array.find?_toList] at e
  unfold PySem.W.lookIn
  rw [hd]
  dsimp only
  split
  · rename_i y q
    rw [q] at e
    exact congrArg some e
  · rename_i q
    rw [q] at e
    have a : es.toList.any (·.refKey) = false := by
      rw [List.any_eq_false]
      intro y hy
      obtain ⟨z, t, hkey⟩ := hk y (Array.mem_toList_iff.mp hy)
      simp [DictEntry.refKey, hkey]
    have a' : ¬ es.toList.any (·.refKey) = true := by rw [a]; exact Bool.false_ne_true
    rw [if_neg a']
    exact congrArg some e
theorem ObjM.look {h : Heap} {x dx C : Addr} {mA : Str -> Option Value} (I : ObjM h x dx C mA) : ∃ od, PySem.W.InstAt h x (PySem.W.instObj C dx) C (some od) /\ ∀ name, PySem.W.lookIn name od = some (mA name) :=
  let ⟨od, ho, hl⟩ := lookIn_ns I.ns
  ⟨od, ⟨I.obj, rfl, rfl, ho⟩, hl⟩
section
variable {prog : Program} {w : World} {A : Around} {E : Value -> Shared -> Prop} {s : Shared} {K : PySem.W.Frag} {x dx C f : Addr} {mA : Str -> Option Value} {name : Str} {v : Value}
theorem set_map {ns : List Str} {Q : Unit -> Shared -> Prop} (X : K.In s.heap) (I : ObjM s.heap x dx C mA)
    (hs : PySem.W.findIn K (.ref C) "__setattr__" = some (some (.builtin "object.__setattr__"))) (hp : PySem.W.plainOver K C = true) (ht : PySem.W.takerIn K C name = some none) (hh : PySem.W.hasDictIn K C = true)
    (hw : PySem.Within mA ns) (hsz : ns.length <= sizeLine)
    (h : ∀ h', ObjM h' x dx C (fun y => if y = name then some v else mA y) -> Heap.SameBut dx s.heap h' -> Q () { s with heap := h', toks := s.toks + 2 }) :
    wpAny (model prog w) A (setAttr (.ref x) name v) Q E s := by
  obtain ⟨od, J, hl⟩ := I.look
  refine PySem.W.set_plain X J hs (PySem.W.osa_open (s := { s with toks := s.toks + 1 }) (r := none) X J hp ht fun b => ?_)
  obtain ⟨cd, hc, hd'⟩ := PySem.W.any_some hh
  have hx : s.heap.get? x = some ⟨.ref C, some dx, .plain, #[]⟩ := I.obj
  refine wpAny_bind (wpAny_pure (wpAny_bind (wpAny_bind (wpAny_loadPart hx (wpAny_bind (PySem.W.Looks.here (s := { s with toks := s.toks + 1 }) (PySem.W.looks_clsIn X hc) ?_))))))
  rw [hd']
  refine wpAny_pure (a := some dx) (wpAny_bind (wpAny_pure (wpAny_bind ?_)))
  refine wpAny_nsSet1 (s := { s with toks := s.toks + 1 }) I.ns fun h' hn2 hs2 => ?_
  obtain ⟨oD, esD, epD, hoD, hdD, hcD⟩ := hn2.count (PySem.Within.cons name v hw)
  refine wpAny_bind (wpAny_lookBehind hoD (by rw [hdD]; exact pastItsLine_dict (Nat.le_trans hcD (by rw [List.length_cons]; omega))) ?_)
  exact wpAny_pure (h _ ⟨(hs2.2 _ (Ne.symm I.ne)).trans I.obj, hn2, I.ne⟩ hs2)
theorem make_map {R : Result -> Shared -> Prop} {vs : List Value} {kw : List (Str × Value)} (X : K.In s.heap) (hm : PySem.W.makesIn K C = true)
    (hi : PySem.W.findIn K (.ref C) "__init__" = some (some (.ref f))) (hf : PySem.W.typeIn K (.ref f) = some (.type "function"))
    (h : codeAny (model prog w) (A.under (.builtin "type.__call__" ⟨.ref C :: vs, kw⟩)) (.call (.ref f) ⟨.ref (s.heap.objs.size + 1) :: vs, kw⟩) (PySem.W.InitBack (s.heap.objs.size + 1) R)
      { s with heap := (s.heap.push PySem.W.emptyDict).push (PySem.W.instObj C s.heap.objs.size) }) :
    codeAny (model prog w) A (.call (.ref C) ⟨vs, kw⟩) R s := by
  obtain ⟨hh, g, d, t, os⟩ := s
  exact PySem.W.make_core (PySem.W.makes_of X hm) (PySem.W.looks_findIn X hi) (fun self => PySem.W.bind_fn X self hf) (.inl rfl) h
end
def putF (f : Str) (v : V) : List (Str × V) -> List (Str × V)
  | [] => [(f, v)]
  | (g, x) :: r => if g = f then (g, v) :: r else (g, x) :: putF f v r
theorem lookup_putF (f g : Str) (v : V) : ∀ fs : List (Str × V), (putF f v fs).lookup g = if g = f then some v else fs.lookup g
  | [] => by
    show List.lookup g [(f, v)] = _
    by_cases h : g = f
    · have hb : (g == f) = true := beq_iff_eq.mpr h
      simp only [List.lookup, hb, if_pos h]
    · have hb : (g == f) = false := beq_eq_false_iff_ne.mpr h
      simp only [List.lookup, hb, if_neg h]
  | (k, x) :: r => by
    have ih := lookup_putF f g v r
    rw [show putF f v ((k, x) :: r) = (if k = f then (k, v) :: r else (k, x) :: putF f v r) from rfl]
    by_cases hk : k = f
    · rw [if_pos hk]
      by_cases h : g = k
      · have hb : (g == k) = true := beq_iff_eq.mpr h
        simp only [List.lookup, hb, if_pos (h.trans hk)]
      · have hb : (g == k) = false := beq_eq_false_iff_ne.mpr h
        simp only [List.lookup, hb, if_neg (fun e : g = f => h (e.trans hk.symm))]
    · rw [if_neg hk]
      by_cases h : g = k
      · have hb : (g == k) = true := beq_iff_eq.mpr h
        simp only [List.lookup, hb, if_neg (fun e : g = f => hk (h.symm.trans e))]
      · have hb : (g == k) = false := beq_eq_false_iff_ne.mpr h
        simp only [List.lookup, hb]
        exact ih
theorem keys_putF (f : Str) (v : V) : ∀ fs : List (Str × V), f ∈ (putF f v fs).map (·.1) /\ ∀ g, g ∈ fs.map (·.1) -> g ∈ (putF f v fs).map (·.1)
  | [] => ⟨by simp [putF], fun g h => by simp at h⟩
  | (k, x) :: r => by
    obtain ⟨i1, i2⟩ := keys_putF f v r
    rw [show putF f v ((k, x) :: r) = (if k = f then (k, v) :: r else (k, x) :: putF f v r) from rfl]
    by_cases hk : k = f
    · rw [if_pos hk]
      subst hk
      exact ⟨by simp, fun g h => by simpa using h⟩
    · rw [if_neg hk]
      refine ⟨?_, fun g h => ?_⟩
      · rw [List.map_cons]
        exact List.mem_cons_of_mem _ i1
      · rw [List.map_cons] at h ⊢
        rcases List.mem_cons.mp h with e | e
        · exact List.mem_cons.mpr (.inl e)
        · exact List.mem_cons_of_mem _ (i2 g e)
theorem length_putF (f : Str) (v : V) : ∀ fs : List (Str × V), (putF f v fs).length <= fs.length + 1
  | [] => by simp [putF]
  | (k, x) :: r => by
    have ih := length_putF f v r
    rw [show putF f v ((k, x) :: r) = (if k = f then (k, v) :: r else (k, x) :: putF f v r) from rfl]
    by_cases hk : k = f
    · rw [if_pos hk, List.length_cons, List.length_cons]; omega
    · rw [if_neg hk, List.length_cons, List.length_cons]; omega
section
variable {P : Program} {w : World} {H H' : Hp} {h h' : Heap} {a C dx : Addr} {fs fs' : List (Str × V)}
theorem ins_get (hok : HOk P w H h) (e : H a = some (.ins C dx fs)) : ∃ mA, ObjM h a dx C mA /\ (∀ f, RelO (fs.lookup f) (mA f)) /\ PySem.Within mA (fs.map (·.1)) /\ fs.length <= 1000 /\ H dx = some (.own a) := by
  obtain ⟨d, z, ne, ob, mA, n, r, q⟩ := (show ObjOk P w H h a (.ins C dx fs) from hok a _ e)
  exact ⟨mA, ⟨ob, n, ne⟩, r, q, z, d⟩
end
structure Cls (K : PySem.W.Frag) (C : Addr) : Prop where
  pg : PySem.W.plainGet K C Str.empty = true
  hd : PySem.W.hasDictIn K C = true
  po : PySem.W.plainOver K C = true
  sa : PySem.W.findIn K (.ref C) "__setattr__" = some (some (.builtin "object.__setattr__"))
theorem Cls.get {K : PySem.W.Frag} {C : Addr} (c : Cls K C) (f : Str) : PySem.W.plainGet K C f = true := c.pg
def NoAttr (K : PySem.W.Frag) (C : Addr) (f : Str) : Prop := PySem.W.findIn K (.ref C) f = some none
theorem NoAttr.taker {K : PySem.W.Frag} {C : Addr} {f : Str} (n : NoAttr K C f) : PySem.W.takerIn K C f = some none := by
  unfold PySem.W.takerIn
  rw [show PySem.W.findIn K (.ref C) f = some none from n]
  rfl
structure Meth (K : PySem.W.Frag) (C : Addr) (m : Str) (f : Addr) : Prop where
  at_ : PySem.W.findIn K (.ref C) m = some (some (.ref f))
  fn : PySem.W.isFn K (.ref f) = true
  kp : PySem.W.keepIn K (.ref f) = true
section
variable {X : Cx} {pins : List (Addr × Obj)} {σ : St} {H : Hp} {s : Shared} {a C dx : Addr} {fs : List (Str × V)} {f : Str} {v : V} {A : Around} {E : Value -> Shared -> Prop}
theorem setattr_ok {y : V} {u : Value} {Q : Unit -> Shared -> Prop} (I : Inv X pins σ H s) (e : H a = some (.ins C dx fs)) (c : Cls X.K C) (n : NoAttr X.K C f) (hl : fs.length < 1000) (ry : RelV y u)
    (h : ∀ s', Inv X pins σ (upd H a (.ins C dx (putF f y fs))) s' -> Q () s') : wpAny (model X.prog X.w) A (setAttr (.ref a) f u) Q E s := by
  obtain ⟨mA, O, r, wi, _, ho⟩ := ins_get I.hok e
  have hz : (fs.map (·.1)).length <= sizeLine := by rw [List.length_map, sizeLine_eq]; omega
  refine set_map I.kIn O c.sa c.po n.taker c.hd wi hz fun h' O' sb => h _ ?_
  have hd : ∃ o, h'.get? dx = some o := let ⟨o, _, _, e', _⟩ := O'.ns; ⟨o, e'⟩
  refine I.write (x := a) (e := dx) (by rw [e]; exact True.intro) (.inr ho) (fun b q hb z => (sb.2 b hb).trans z) hd ?_
  refine ⟨by rw [upd_ne O.ne]; exact ho, ?_, O.ne, O'.obj, _, O'.ns, fun g => ?_, fun g hg => ?_⟩
  · have := length_putF f y fs; omega
  · show RelO ((putF f y fs).lookup g) (if g = f then some u else mA g)
    rw [lookup_putF]
    by_cases q : g = f
    · rw [if_pos q, if_pos q]; exact ry
    · rw [if_neg q, if_neg q]; exact r g
  · by_cases q : g = f
    · rw [q]; exact (keys_putF f y fs).1
    · refine (keys_putF f y fs).2 g (wi g fun z => hg ?_)
      show (if g = f then some u else mA g) = none
      rw [if_neg q]; exact z
theorem Inv.made (I : Inv X pins σ H s) : Inv X pins σ (upd (upd H s.heap.objs.size (.own (s.heap.objs.size + 1))) (s.heap.objs.size + 1) (.ins C s.heap.objs.size []))
    { s with heap := (s.heap.push PySem.W.emptyDict).push (PySem.W.instObj C s.heap.objs.size) } := by
  have e1 : (s.heap.push PySem.W.emptyDict).get? s.heap.objs.size = some PySem.W.emptyDict := Heap.get?_push_size s.heap rfl
  have e2 : ((s.heap.push PySem.W.emptyDict).push (PySem.W.instObj C s.heap.objs.size)).get? (s.heap.objs.size + 1) = some (PySem.W.instObj C s.heap.objs.size) := by
    have := Heap.get?_push_size (s.heap.push PySem.W.emptyDict) (o := PySem.W.instObj C s.heap.objs.size) rfl
    rwa [Heap.size_push] at this
  have e3 : (s.heap.push PySem.W.emptyDict).Ns s.heap.objs.size (fun _ => none) := ⟨PySem.W.emptyDict, #[], _, e1, rfl, (fun e he => absurd he (by simp)), fun _ => rfl⟩
  have I1 := I.laid (a := s.heap.objs.size) (o := .own (s.heap.objs.size + 1)) (h' := s.heap.push PySem.W.emptyDict) (t' := s.toks) (fun b u q => Heap.get?_push_of_some _ q) (Nat.le_refl _) ⟨_, e1⟩
  refine I1.laid (a := s.heap.objs.size + 1) (o := .ins C s.heap.objs.size []) (t' := s.toks) (fun b u q => Heap.get?_push_of_some _ q) (Nat.le_of_eq (Heap.size_push _ _)) ?_
  have ne : s.heap.objs.size ≠ s.heap.objs.size + 1 := Nat.ne_of_lt (Nat.lt_succ_self _)
  refine ⟨by rw [upd_ne ne, upd_same], Nat.zero_le _, ne, e2, fun _ => none, (Heap.Ns1.of_empty e3).at fun o q => Heap.get?_push_of_some _ q, fun _ => True.intro, fun y hy => absurd rfl hy⟩
theorem attr_of {prog : Program} {w : World} {env : Env} {e : Expr} {f : Str} {pos : Pos} {s : Shared} {Q : Value -> Shared -> Prop} (hb : attributeBase e f env (eval e env) = eval e env)
    (h : wpAny (model prog w) A (eval e env) (fun o s₁ => wpAny (model prog w) A (getAttr o f true) Q E s₁) E s) : wpAny (model prog w) A (eval (.Attribute e f pos) env) Q E s :=
  Attribute_any_ h (by rw [arm_eval_Attribute, hb])
end
def sFld (K : PySem.W.Frag) (ta tv : TE) (f : Str) : TS := fun D σ H => tv σ H fun y H1 => ta σ H1 fun x H2 => ∃ a C dx fs, x = .ref a /\ H2 a = some (.ins C dx fs) /\ Cls K C /\ NoAttr K C f /\ fs.length < 1000 /\
  D.nx σ (upd H2 a (.ins C dx (putF f y fs)))
section
variable {X : Cx} {o e value : Expr} {f : Str} {pos pos' tpos : Pos} {ta tv : TE}
theorem ps_fld (ha : PE X o ta) (hv : PE X value tv) (hs : swapsWith value (some (.Attribute o f pos')) pos.line X.env = pure false) : PS X (.Assign [.Attribute o f pos'] value pos) (sFld X.K ta tv f) := by
  intro pins s σ H D I h
  refine plainObj_wpAny_Assign_Attribute (thn (hv pins s σ H _ I h) fun u s1 ⟨y, H1, I1, ry, q⟩ => thn (ha pins s1 σ H1 _ I1 q) fun ov s2 ⟨x, H2, I2, rx, a, C, dx, fs, ex, ea, c, n, l, q2⟩ => ?_) hs
  subst ex
  obtain rfl : ov = Value.ref a := rx
  exact setattr_ok I2 ea c n l ry fun s3 I3 => ⟨σ, _, I3, q2⟩
end
section
variable {X : Cx} {pins : List (Addr × Obj)} {σ : St} {H : Hp} {s : Shared} {A : Around} {E : Value -> Shared -> Prop} {Q : Value -> Shared -> Prop} {c : Value} {b : Bool}
inductive TyOf (K : PySem.W.Frag) (H : Hp) : V -> Value -> Prop where
  | non : TyOf K H .non (.type "NoneType")
  | bl (x : Bool) : TyOf K H (.bl x) (.type "bool")
  | int (i : Int) : TyOf K H (.int i) (.type "int")
  | str (x : Str) : TyOf K H (.str x) (.type "str")
  | flt (x : UInt64) : TyOf K H (.flt x) (.type "float")
  | lst {a : Addr} {xs : List V} (e : H a = some (.lst xs)) : TyOf K H (.ref a) (.type "list")
  | frz {a : Addr} {o : Obj} {xs : List V} (e : H a = some (.frz o (.lst xs))) : TyOf K H (.ref a) (.type "list")
  | tup {a : Addr} {xs : List V} (e : H a = some (.tup xs)) : TyOf K H (.ref a) (.type "tuple")
  | dK {a : Addr} {kvs : List (Key × V)} (e : H a = some (.dK kvs)) : TyOf K H (.ref a) (.type "dict")
  | dT {a : Addr} {kvs : List (List Key × V)} (e : H a = some (.dT kvs)) : TyOf K H (.ref a) (.type "dict")
  | ins {a C dx : Addr} {fs : List (Str × V)} (e : H a = some (.ins C dx fs)) (cl : Cls K C) (ha : PySem.W.findIn K (.ref C) "__class__" = some (some (.builtin "object.__class__")))
      (hn : PySem.W.specialIn K (.builtin "object.__class__") "__get__" = some (some (.builtin "getset_descriptor.__get__"))) (htk : PySem.W.takesIn K (.builtin "object.__class__") = some true)
      (hm : PySem.W.mroIn K C (.type "object") = some true) : TyOf K H (.ref a) (.ref C)
theorem isinst_ok {x : V} {u t : Value} (I : Inv X pins σ H s) (rx : RelV x u) (ty : TyOf X.K H x t) (e : PySem.W.kitOne X.K t c = some b) (h : ∀ tk, Q (.bool b) { s with toks := tk }) :
    wpAny (model X.prog X.w) A (call (.builtin "isinstance") [u, c]) Q E s := by
  cases ty with
  | non => cases (show u = Value.none from rx); exact PySem.W.kia_one PySem.W.kitx_none I.kIn True.intro e (fun z => nomatch z) h
  | bl y => cases (show u = Value.bool y from rx); exact PySem.W.kia_one PySem.W.kitx_bool I.kIn True.intro e (fun z => nomatch z) h
  | int i => obtain ⟨t, q⟩ := (show ∃ t, u = Value.int i t from rx); cases q; exact PySem.W.kia_one PySem.W.kitx_int I.kIn True.intro e (fun z => nomatch z) h
  | str y => obtain ⟨t, q⟩ := (show ∃ t, u = Value.str y t from rx); cases q; exact PySem.W.kia_one PySem.W.kitx_str I.kIn True.intro e (fun z => nomatch z) h
  | flt y => obtain ⟨t, q⟩ := (show ∃ t, u = Value.float y t from rx); cases q; exact PySem.W.kia_one PySem.W.kitx_float I.kIn True.intro e (fun z => nomatch z) h
  | @lst a xs ea =>
    cases (show u = Value.ref a from rx)
    obtain ⟨_, _, n, _, h1⟩ := (show ObjOk X.prog X.w H s.heap a (.lst xs) from I.hok a _ ea)
    exact PySem.W.kia_one PySem.W.kitx_list I.kIn ⟨_, h1, rfl⟩ e (fun z => nomatch z) h
  | @frz a ob xs ea =>
    cases (show u = Value.ref a from rx)
    obtain ⟨_, _, _, n, _, h1⟩ := (show ObjOk X.prog X.w H s.heap a (.frz ob (.lst xs)) from I.hok a _ ea)
    exact PySem.W.kia_one PySem.W.kitx_list I.kIn ⟨_, h1, rfl⟩ e (fun z => nomatch z) h
  | @tup a xs ea =>
    cases (show u = Value.ref a from rx)
    obtain ⟨_, _, _, p⟩ := (show ObjOk X.prog X.w H s.heap a (.tup xs) from I.hok a _ ea)
    obtain ⟨o, h1, h2, _⟩ := p
    exact PySem.W.kia_one PySem.W.kitx_tuple I.kIn ⟨o, h1, h2⟩ e (fun z => nomatch z) h
  | @dK a kvs ea =>
    cases (show u = Value.ref a from rx)
    obtain ⟨_, _, vs, _, p⟩ := (show ObjOk X.prog X.w H s.heap a (.dK kvs) from I.hok a _ ea)
    obtain ⟨o, es, ep, h1, h2, _⟩ := p
    exact PySem.W.kia_one PySem.W.kitx_dict I.kIn ⟨o, h1, h2.1⟩ e (fun z => nomatch z) h
  | @dT a kvs ea =>
    cases (show u = Value.ref a from rx)
    obtain ⟨_, _, xs, _, o, es, ep, h1, h2, _⟩ := (show ObjOk X.prog X.w H s.heap a (.dT kvs) from I.hok a _ ea)
    exact PySem.W.kia_one PySem.W.kitx_dict I.kIn ⟨o, h1, h2.1⟩ e (fun z => nomatch z) h
  | @ins a C dx fs ea cl ha hn htk hm =>
    cases (show u = Value.ref a from rx)
    obtain ⟨mA, O, _⟩ := ins_get I.hok ea
    obtain ⟨od, J, _⟩ := O.look
    exact PySem.W.kia_one (PySem.W.kitx_own (cl.get _) cl.hd ha hn htk hm) I.kIn J e (fun z => nomatch z) h
end
end L2
namespace L2
open PySem PySem.Spec PyProof.Rows
structure Room (k : Nat) (A : Around) : Prop where
  hd : A.handled = none
  dp : A.depth + 3 * k + 5 < recursionLimit
  un : A.units + 16 * k + 200 < cLine
theorem Room.mono {j k : Nat} {A : Around} (r : Room k A) (h : j <= k) : Room j A := ⟨r.hd, by have := r.dp; omega, by have := r.un; omega⟩
theorem Room.deeper {k : Nat} {A : Around} (r : Room (k + 1) A) (env : Env) : Room k (A.deeper env) :=
  ⟨r.hd, by have := r.dp; show A.depth + 1 + 3 * k + 5 < _; omega, by have := r.un; show A.units + 3 + 16 * k + 200 < _; omega⟩
theorem make_depth {A : Around} {C : Addr} {us : List Value} {kw : List (Str × Value)} : (A.under (.builtin "type.__call__" ⟨.ref C :: us, kw⟩)).depth = A.depth + 1 := by
  first | rfl | simp [Around.under, Code.weight, Code.isCreation, Code.isGuard, Code.isCaller, Code.frames, Code.isFrame, guardIds]
theorem make_units {A : Around} {C : Addr} {us : List Value} {kw : List (Str × Value)} : (A.under (.builtin "type.__call__" ⟨.ref C :: us, kw⟩)).units = A.units + 1 := by
  first | rfl | simp [Around.under, Code.cUnits, Code.frames, Code.isFrame]
theorem Room.make {k : Nat} {A : Around} (r : Room (k + 1) A) (C : Addr) (us : List Value) (kw : List (Str × Value)) : Room k (A.under (.builtin "type.__call__" ⟨.ref C :: us, kw⟩)) :=
  ⟨r.hd, by have := r.dp; rw [make_depth]; omega, by have := r.un; rw [make_units]; omega⟩
theorem Room.depth {k : Nat} {A : Around} (r : Room k A) : A.depth < recursionLimit := by have := r.dp; omega
theorem Room.units {k : Nat} {A : Around} (r : Room k A) : A.units + 64 < cLine := by have := r.un; omega
def tNil : TA := fun _ H Q => Q [] H
def tCons (ta : TE) (tr : TA) : TA := fun σ H Q => ta σ H fun x H1 => tr σ H1 fun xs H2 => Q (x :: xs) H2
section
variable {X : Cx} {e : Expr} {es : List Expr} {te : TE} {t : TA} {pos : Pos}
theorem pa_nil : PA X [] tNil := fun _ _ _ _ H Q I h => Calls.spliced_nil ⟨[], H, I, .nil, h⟩
theorem pa_cons (ha : PE X e te) (hr : PA X es t) (hs : starEach (e :: es) X.env = (false, eval e X.env) :: starEach es X.env := by rfl) : PA X (e :: es) (tCons te t) := by
  intro pos pins s σ H Q I h
  rw [hs]
  show wpAny _ _ (spliced ((false, eval e X.env) :: backTo pos (starEach es X.env))) _ _ s
  refine Calls.spliced_cons (thn (ha pins s σ H _ I h) fun u s1 ⟨x, H1, I1, r1, q1⟩ => ?_)
  exact thn (hr pos pins s1 σ H1 _ I1 q1) fun us s2 ⟨xs, H2, I2, r2, q2⟩ => ⟨x :: xs, H2, I2, .cons r1 r2, q2⟩
def tTup (t : TA) : TE := fun σ H Q => t σ H fun xs H1 => xs.length <= sizeLine /\ ∀ p, H1 p = none -> Q (.ref p) (upd H1 p (.tup xs))
def tLst (t : TA) : TE := fun σ H Q => t σ H fun xs H1 => xs.length <= sizeLine /\ ∀ p, H1 p = none -> Q (.ref p) (upd H1 p (.lst xs))
theorem pe_tup {x1} (h : PA X es t) : PE X (.Tuple es x1 pos) (tTup t) := by
  intro pins s σ H Q I hq
  refine wpAny_Tuple_spliced (thn (h pos pins s σ H _ I hq) fun us s1 ⟨xs, H1, I1, r, z, q⟩ => ⟨by rw [<- r.length]; exact z, ?_⟩)
  have hf : H1 s1.heap.objs.size = none := I1.hok.fresh (Nat.le_refl _)
  refine ⟨.ref s1.heap.objs.size, upd H1 s1.heap.objs.size (.tup xs), I1.laid (t' := s1.toks) (fun b u e => Heap.get?_push_of_some _ e) (Nat.le_refl _) ?_, rfl, q _ hf⟩
  exact ⟨z, us, r, ⟨_, Heap.get?_push_size _ rfl, rfl, _, rfl⟩⟩
theorem pe_lst (h : PA X es t) : PE X (.List es pos) (tLst t) := by
  intro pins s σ H Q I hq
  refine wpAny_List_spliced (thn (h pos pins s σ H _ I hq) fun us s1 ⟨xs, H1, I1, r, z, q⟩ => ⟨by rw [<- r.length]; exact z, ?_⟩)
  have hf : H1 s1.heap.objs.size = none := I1.hok.fresh (Nat.le_refl _)
  refine ⟨.ref s1.heap.objs.size, upd H1 s1.heap.objs.size (.lst xs), I1.laid (t' := s1.toks) (fun b u e => Heap.get?_push_of_some _ e) (Nat.le_refl _) ?_, rfl, q _ hf⟩
  exact ⟨z, us, 0, r, Heap.get?_push_size _ rfl⟩
end
abbrev Sp := List V -> Hp -> VK -> XK -> Prop
abbrev CXT := List Env -> Hp -> Shared -> XK -> Value -> Shared -> Prop
structure Env0 (P : Program) (w : World) (K : PySem.W.Frag) (mg : Str -> Option Value) (base : Heap) (A : Around) (outer : List Env) (s : Shared) (H : Hp) : Prop where
  frames : A.frames = some outer
  mod : Mod K mg base
  bs : ∀ b o, base.get? b = some o -> s.heap.get? b = some o /\ H b = none
  bsz : base.objs.size <= s.heap.objs.size
  funs : s.heap.FunFrames base outer
  frf : ∀ b ∈ frs outer, H b = none
  hok : HOk P w H s.heap
  bare : AllBare s.gens
def CE (outer : List Env) (P : Program) (w : World) (H : Hp) (s : Shared) (Q : VK) (u : Value) (s' : Shared) : Prop :=
  ∃ v H', s'.os = s.os /\ AllBare s'.gens /\ Un (frs outer) [] H H' s.heap s'.heap /\ HOk P w H' s'.heap /\ RelV v u /\ Q v H'
def CR (CX : CXT) (outer : List Env) (P : Program) (w : World) (H : Hp) (s : Shared) (Q : VK) (E : XK) (r : Result) (s' : Shared) : Prop :=
  match r with
  | .ok (.ret u) => CE outer P w H s Q u s'
  | .ok _ => False
  | .error e => CX outer H s E e s'
structure FnOk (P : Program) (w : World) (K : PySem.W.Frag) (mg : Str -> Option Value) (base : Heap) (CX : CXT) (k : Nat) (f : Addr) (fd : FuncData) (ps : List Str) (sp : Sp) : Prop where
  len : ∀ vs H Q E, sp vs H Q E -> vs.length = ps.length
  run : ∀ (A : Around) (outer : List Env) (s : Shared) (H : Hp) (args : Args) (us : List Value) (vs : List V) (Q : VK) (E : XK), Room k A -> Env0 P w K mg base A outer s H -> BindsTo s fd args (ps.zip us) -> Vals vs us -> sp vs H Q E ->
    codeAny (model P w) A (.call (.ref f) args) (CR CX outer P w H s Q E) s
theorem FnOk.mono {P : Program} {w : World} {K : PySem.W.Frag} {mg : Str -> Option Value} {base : Heap} {CX : CXT} {j k : Nat} {f : Addr} {fd : FuncData} {ps : List Str} {sp : Sp} (F : FnOk P w K mg base CX j f fd ps sp) (h : j <= k) :
    FnOk P w K mg base CX k f fd ps sp := ⟨F.len, fun A outer s H args us vs Q E hr => F.run A outer s H args us vs Q E (hr.mono h)⟩
theorem Env0.make {P : Program} {w : World} {K : PySem.W.Frag} {mg : Str -> Option Value} {base : Heap} {A : Around} {outer : List Env} {s : Shared} {H : Hp} (e : Env0 P w K mg base A outer s H) (C : Addr) (us : List Value) (kw : List (Str × Value)) :
    Env0 P w K mg base (A.under (.builtin "type.__call__" ⟨.ref C :: us, kw⟩)) outer s H := ⟨by first | exact e.frames | (simpa [Around.under, Code.envs, Code.isFrame, pushEnvs] using e.frames), e.mod, e.bs, e.bsz, e.funs, e.frf, e.hok, e.bare⟩
section
variable {X : Cx} {pins : List (Addr × Obj)} {σ : St} {H : Hp} {s s' : Shared}
theorem Inv.env0 (I : Inv X pins σ H s) : Env0 X.prog X.w X.K X.mg X.base X.A X.stack s H :=
  ⟨I.ok.frames, I.ok.mod, I.bs, Nat.le_trans I.ok.bsz I.sz, I.stack, I.stkFree, I.hok, I.bare⟩
theorem Inv.after {Q : VK} {u : Value} (I : Inv X pins σ H s) (h : CE X.stack X.prog X.w H s Q u s') : EP X pins σ Q u s' := by
  obtain ⟨v, H', os, bare, un, hok, r, q⟩ := h
  obtain ⟨hh, g, d, t, os'⟩ := s'
  obtain rfl : os' = s.os := os
  exact ⟨v, H', I.call (h' := hh) (g' := g) (d' := d) (t' := t) (ch := []) un hok bare (fun b z => absurd z (by simp)), r, q⟩
end
def tCall (sp : Sp) (dvs : List V) (E : XK) (t : TA) : TE := fun σ H Q => t σ H fun vs H1 => sp (vs ++ dvs) H1 Q E
def Binds (K : PySem.W.Frag) (fd : FuncData) (ps : List Str) (ds : List Value) : Prop :=
  ∀ (s : Shared) (us : List Value), K.In s.heap -> (us ++ ds).length = ps.length -> BindsTo s fd ⟨us, []⟩ (ps.zip (us ++ ds))
theorem Binds.all {K : PySem.W.Frag} {fd : FuncData} {ps : List Str} (h : ∀ us : List Value, us.length = ps.length -> bindArgs fd ⟨us, []⟩ = pure (ps.zip us)) : Binds K fd ps [] := fun s us _ hl => by
  rw [List.append_nil] at hl ⊢
  exact .of_eq (h us hl)
def Passes (CX : CXT) (X : Cx) (E : XK) : Prop := ∀ (pins : List (Addr × Obj)) (σ : St) (H : Hp) (s : Shared) (e : Value) (s' : Shared), Inv X pins σ H s -> CX X.stack H s E e s' -> X.xe e s'
section
variable {X : Cx} {CX : CXT} {k : Nat} {f C : Addr} {fd : FuncData} {ps : List Str} {sp : Sp} {dvs : List V} {ds : List Value} {E : XK} {x m : Str} {p pos apos : Pos} {e o : Expr} {es : List Expr} {ta : TE} {t : TA}
theorem run_fn {pins : List (Addr × Obj)} {σ : St} {H : Hp} {s : Shared} {Q : VK} {us : List Value} {vs : List V} (F : FnOk X.prog X.w X.K X.mg X.base CX k f fd ps sp) (hr : Room k X.A) (hb : Binds X.K fd ps ds) (hd : Vals dvs ds) (hx : Passes CX X E)
    (I : Inv X pins σ H s) (r : Vals vs us) (h : sp (vs ++ dvs) H Q E) : wpAny (model X.prog X.w) X.A (call (.ref f) us) (EP X pins σ Q) X.xe s := by
  have r2 : Vals (vs ++ dvs) (us ++ ds) := r.append hd
  have hl : (us ++ ds).length = ps.length := by rw [<- r2.length]; exact F.len _ _ _ _ h
  refine wpAny_call (codeAny_mono (F.run X.A X.stack s H ⟨us, []⟩ (us ++ ds) (vs ++ dvs) Q E hr I.env0 (hb s us I.kIn hl) r2 h) fun r s' hq => ?_)
  cases r with
  | error e => exact hx pins σ H s e s' I hq
  | ok fl =>
    cases fl with
    | ret u => exact I.after hq
    | next => exact False.elim hq
    | brk => exact False.elim hq
    | cont => exact False.elim hq
theorem pe_call (F : FnOk X.prog X.w X.K X.mg X.base CX k f fd ps sp) (hr : Room k X.A) (hg : Gl X x) (hm : X.mg x = some (.ref f)) (hk : PySem.W.keepIn X.K (.ref f) = true) (hb : Binds X.K fd ps ds) (hd : Vals dvs ds) (hx : Passes CX X E)
    (ha : PA X (e :: es) t) (hdb : (x == ("__debug__" : Str)) = false := by decide) (he : starEach (e :: es) X.env = (false, eval e X.env) :: starEach es X.env := by rfl) (hpl : (backTo pos (starEach es X.env)).any (·.1) = false := by rfl) :
    PE X (.Call (.Name x p) (e :: es) [] pos) (tCall sp dvs E t) := by
  intro pins s σ H Q I h
  refine wpAny_Call_Name_kw (ld_glob I hg hm ?_ hdb)
  refine PySem.W.callWith_K (h₀ := X.base) I.ok.mod.kin hk (thn (ha pos pins s σ H _ I h) fun us s1 ⟨vs, H1, I1, r, q⟩ => ⟨I1.kIn, ?_⟩) he hpl
  exact run_fn F hr hb hd hx I1 r q
theorem pe_call0 (F : FnOk X.prog X.w X.K X.mg X.base CX k f fd ps sp) (hr : Room k X.A) (hg : Gl X x) (hm : X.mg x = some (.ref f)) (hk : PySem.W.keepIn X.K (.ref f) = true) (hb : Binds X.K fd ps ds) (hd : Vals dvs ds) (hx : Passes CX X E)
    (hdb : (x == ("__debug__" : Str)) = false := by decide) : PE X (.Call (.Name x p) [] [] pos) (tCall sp dvs E tNil) := by
  intro pins s σ H Q I h
  refine wpAny_Call_Name_kw (ld_glob I hg hm ?_ hdb)
  exact PySem.W.callWith_K0 I.kIn hk (run_fn (us := []) F hr hb hd hx I .nil h)
structure Mk (K : PySem.W.Frag) (C f : Addr) : Prop where
  makes : PySem.W.makesIn K C = true
  init : PySem.W.findIn K (.ref C) "__init__" = some (some (.ref f))
  fn : PySem.W.isFn K (.ref f) = true
  kp : PySem.W.keepIn K (.ref C) = true
end
structure FnScope (N P : List Str) (sc : Scope) : Prop where
  kind : sc.kind = .function
  co : sc.isCoroutine = false
  gen : sc.isGenerator = false
  nd : N.Nodup
  pre : N.take P.length = P
  par : ∀ x ∈ P, sc.names.lookup x = some .local \/ sc.names.lookup x = some .cell
  nofree : ∀ y ∈ sc.names, y.2 ≠ .free
theorem bindL_out {kindOf : Str -> Option NameKind} {x : Str} : ∀ {binds : List (Str × Value)} {m : Str -> Option Value}, (∀ v, (x, v) ∉ binds) -> bindL kindOf binds m x = m x
  | [], _, _ => rfl
  | (n, v) :: r, m, h => by
    unfold bindL
    rw [bindL_out fun w hw => h w (List.mem_cons_of_mem _ hw)]
    split
    · have : x ≠ n := by rintro rfl; exact h v List.mem_cons_self
      simp [this]
    · rfl
theorem bindC_out {kindOf : Str -> Option NameKind} {x : Str} : ∀ {binds : List (Str × Value)} {m : Str -> Option Value}, (∀ v, (x, v) ∉ binds) -> bindC kindOf binds m x = m x
  | [], _, _ => rfl
  | (n, v) :: r, m, h => by
    unfold bindC
    rw [bindC_out fun w hw => h w (List.mem_cons_of_mem _ hw)]
    split
    · rfl
    · have : x ≠ n := by rintro rfl; exact h v List.mem_cons_self
      simp [this]
theorem bindL_get {kindOf : Str -> Option NameKind} {x : Str} {v : Value} : ∀ {P : List Str} {vs : List Value} {i : Nat} {m : Str -> Option Value}, P.Nodup -> P[i]? = some x -> vs[i]? = some v -> kindOf x = some .local ->
    bindL kindOf (P.zip vs) m x = some v
  | [], _, _, _, _, h, _, _ => by simp at h
  | _ :: _, [], _, _, _, _, h, _ => by simp at h
  | p :: P, w :: vs, 0, m, nd, h1, h2, hk => by
    simp at h1 h2; subst h1; subst h2
    show bindL kindOf ((p, w) :: P.zip vs) m p = _
    unfold bindL
    rw [bindL_out fun v hv => (List.nodup_cons.mp nd).1 (List.of_mem_zip hv).1, if_pos hk]
    simp
  | p :: P, w :: vs, i + 1, m, nd, h1, h2, hk => by
    show bindL kindOf ((p, w) :: P.zip vs) m x = _
    unfold bindL
    exact bindL_get (i := i) (List.nodup_cons.mp nd).2 (by simpa using h1) (by simpa using h2) hk
theorem bindC_get {kindOf : Str -> Option NameKind} {x : Str} {v : Value} : ∀ {P : List Str} {vs : List Value} {i : Nat} {m : Str -> Option Value}, P.Nodup -> P[i]? = some x -> vs[i]? = some v -> kindOf x ≠ some .local ->
    bindC kindOf (P.zip vs) m x = some v
  | [], _, _, _, _, h, _, _ => by simp at h
  | _ :: _, [], _, _, _, _, h, _ => by simp at h
  | p :: P, w :: vs, 0, m, nd, h1, h2, hk => by
    simp at h1 h2; subst h1; subst h2
    show bindC kindOf ((p, w) :: P.zip vs) m p = _
    unfold bindC
    rw [bindC_out fun v hv => (List.nodup_cons.mp nd).1 (List.of_mem_zip hv).1, if_neg hk]
    simp
  | p :: P, w :: vs, i + 1, m, nd, h1, h2, hk => by
    show bindC kindOf ((p, w) :: P.zip vs) m x = _
    unfold bindC
    exact bindC_get (i := i) (List.nodup_cons.mp nd).2 (by simpa using h1) (by simpa using h2) hk
def start (N : List Str) (vs : List V) : St := vs.map some ++ List.replicate (N.length - vs.length) none
def cxOf (CX : CXT) (P : Program) (w : World) (K : PySem.W.Frag) (mg : Str -> Option Value) (base : Heap) (N : List Str) (qual : Str) (scope : Scope) (f : Addr) (cd : Value) (A : Around) (outer : List Env) (s : Shared) (H : Hp) (E : XK) : Cx where
  prog := P
  w := w
  K := K
  mg := mg
  base := base
  A := A.deeper (envOfC qual scope s.heap.objs.size f cd)
  N := N
  s₀ := s
  H₀ := H
  env := envOfC qual scope s.heap.objs.size f cd
  outer := outer
  stack := envOfC qual scope s.heap.objs.size f cd :: outer
  ex := []
  calm := true
  fn := fun _ => true
  pn := []
  xe := fun e s' => wpAny (model P w) (A.deeper (envOfC qual scope s.heap.objs.size f cd)) («leaving» (envOfC qual scope s.heap.objs.size f cd) e) (fun _ s'' => CX outer H s E e s'') (fun e' s'' => CX outer H s E e' s'') s'
theorem cell_has {sc : Scope} {n : Nat} {x : Str} (h : sc.names.lookup x = some .cell) : ∃ c, (cellsFrom n sc.names []).lookup x = some c := by
  have q := PySem.W.cellsFrom_some sc.names n [] (.inl h)
  exact Option.isSome_iff_exists.mp q
theorem inv_start {CX : CXT} {P : Program} {w : World} {K : PySem.W.Frag} {mg : Str -> Option Value} {base : Heap} {N ps : List Str} {qual : Str} {scope : Scope} {f : Addr} {cd : Value} {A : Around} {outer : List Env} {s s1 : Shared} {H : Hp} {E : XK} {us : List Value} {vs : List V}
    (S : FnScope N ps scope) (hd : A.handled = none) (e0 : Env0 P w K mg base A outer s H) (hl : vs.length = ps.length) (r : Vals vs us)
    (x : InCallC s s.heap.objs.size (bindL (envOfC qual scope s.heap.objs.size f cd).kindOf (ps.zip us) fun _ => none) (cellsFrom (s.heap.objs.size + 1) scope.names []) (bindC (envOfC qual scope s.heap.objs.size f cd).kindOf (ps.zip us) fun _ => none) s1) :
    Inv (cxOf CX P w K mg base N qual scope f cd A outer s H E) [] (start N vs) H s1 := by
  have hpl : ps.length <= N.length := by have := congrArg List.length S.pre; rw [List.length_take] at this; omega
  obtain ⟨h1, tk, rfl, hk⟩ := x.done
  have noA : ∀ b : Addr, b ∉ (cxOf CX P w K mg base N qual scope f cd A outer s H E).ex := fun b z => absurd (show b ∈ ([] : List Addr) from z) (by simp)
  refine ⟨⟨e0.mod, S.kind, rfl, rfl, Nat.le_refl _, fun y z c h1 h2 => ?_, fun y hy => ?_, fun y c _ h => ?_, fun _ => hd, Around.frames_deeper e0.frames, .inr ⟨rfl, rfl⟩, fun b z => absurd z (noA b), e0.bs, e0.bsz, fun b _ _ => noA b, fun b z => absurd z (noA b), e0.funs, e0.frf⟩,
    rfl, e0.bare, Un.kept hk, ⟨_, x.toInCall.ns, fun i y v h1 h2 h3 => ?_⟩, fun y c h => ⟨_, x.cell y c h⟩, e0.hok.fresh (Nat.le_refl _), fun y c h => ?_, fun p hp => absurd (show p ∈ ([] : List (Addr × Obj)) from hp) (by simp), e0.hok.kept hk, ?_⟩
  · exact name_of_addr x.apart (PySem.mem_of_lookup h1) (PySem.mem_of_lookup h2)
  · have hy : scope.names.lookup y = some .cell \/ scope.names.lookup y = some .free := hy
    rcases hy with hy | hy
    · exact cell_has hy
    · exact absurd rfl (S.nofree _ (PySem.mem_of_lookup hy))
  · exact Nat.le_of_lt (x.above y c (PySem.mem_of_lookup h))
  · have hi : i < vs.length := by
      unfold start at h2
      by_cases hi : i < vs.length
      · exact hi
      · rw [List.getElem?_append_right (by simpa using hi)] at h2
        rw [List.getElem?_replicate] at h2
        split at h2 <;> cases h2
    have ha : vs[i]? = some v := by
      unfold start at h2
      rw [List.getElem?_append_left (by simpa using hi), List.getElem?_map] at h2
      cases e : vs[i]? with
      | none => rw [e] at h2; cases h2
      | some a => rw [e] at h2; cases h2; rfl
    obtain ⟨u, hu, rv⟩ := r.get ha
    have hp : ps[i]? = some y := by
      rw [<- S.pre, List.getElem?_take_of_lt (by omega)]; exact h1
    have ndP : ps.Nodup := by rw [<- S.pre]; exact S.nd.sublist (List.take_sublist _ _)
    refine ⟨u, rv, ?_⟩
    rcases S.par y (List.mem_of_getElem? hp) with k | k
    · exact .inl ⟨k, bindL_get ndP hp hu k⟩
    · obtain ⟨c, e⟩ := cell_has (n := s.heap.objs.size + 1) k
      refine .inr ⟨.inl k, c, e, ?_⟩
      have q := x.cell y c e
      rw [bindC_get ndP hp hu (by show scope.names.lookup y ≠ _; rw [k]; decide)] at q
      exact q
  · exact e0.hok.fresh (Nat.le_of_lt (x.above y c (PySem.mem_of_lookup h)))
  · unfold start
    show _ = N.length
    rw [List.length_append, List.length_map, List.length_replicate]
    omega
theorem fn_of {CX : CXT} {P : Program} {w : World} {K : PySem.W.Frag} {mg : Str -> Option Value} {base : Heap} {k : Nat} {f : Addr} {name qual : Str} {params : Arguments} {body : List Stmt} {scope : Scope} {dV kV doc pm cdv ct oc : Value} {an od : Option Addr}
    {osl : Array (Option Value)} {N ps : List Str} {sp : Sp} (lk : K.lookup f = some ⟨oc, od, .func (PySem.W.fnOf name qual params body scope dV kV doc pm an cdv ct), osl⟩) (hcd : PySem.W.codeIn K cdv qual = true) (S : FnScope N ps scope)
    (len : ∀ vs H Q E, sp vs H Q E -> vs.length = ps.length)
    (hbody : ∀ (A : Around) (outer : List Env) (s : Shared) (H : Hp) (vs : List V) (Q : VK) (E : XK), Room k (A.deeper (envOfC qual scope s.heap.objs.size f cdv)) -> sp vs H Q E ->
      ∃ t, PSs (cxOf CX P w K mg base N qual scope f cdv A outer s H E) body t /\ t { nx := fun _ H' => Q .non H', rt := Q } (start N vs) H) :
    FnOk P w K mg base CX (k + 1) f (PySem.W.fnOf name qual params body scope dV kV doc pm an cdv ct) ps sp := by
  refine ⟨len, fun A outer s H args us vs Q E hr e0 hb r hsp => ?_⟩
  have hl := len _ _ _ _ hsp
  have KX : K.In s.heap := e0.mod.kin.keeps fun b o e => (e0.bs b o e).1
  have lim : s.heap.NoLimit := e0.mod.nolimit.keeps fun b o e => (e0.bs b o e).1
  have hkind : ∀ y ∈ ps.zip us, scope.names.lookup y.1 = some .local \/ (scope.names.lookup y.1 = some .cell /\ ((cellsFrom (s.heap.objs.size + 1) scope.names []).lookup y.1).isSome = true) := fun ⟨n, v⟩ hy => by
    rcases S.par n (List.of_mem_zip hy).1 with q | q
    · exact .inl q
    · exact .inr ⟨q, PySem.W.cellsFrom_some _ _ _ (.inl q)⟩
  refine codeAny_call_function hr.depth (KX _ _ lk) rfl S.co S.gen rfl (PySem.W.codeRec_of KX hcd) (hb _ _ _ _ ?_)
  refine wpAny_newFunctionEnv_cells S.kind hkind fun env he s1 x => ?_
  subst he
  refine ⟨lim.keeps x.toInCall.keep, codeAny_func ?_⟩
  obtain ⟨t, ht, hq⟩ := hbody A outer s H vs Q E (hr.deeper _) hsp
  have I : Inv (cxOf CX P w K mg base N qual scope f cdv A outer s H E) [] (start N vs) H s1 := inv_start S hr.hd e0 hl r x
  refine wpAny_mono (ht [] s1 (start N vs) H _ I hq) (fun fl s' hs => ?_) fun e s' hs => hs
  have fin : ∀ {σ' : St} {H' : Hp} {v : V} {u : Value}, Inv (cxOf CX P w K mg base N qual scope f cdv A outer s H E) [] σ' H' s' -> RelV v u -> Q v H' -> CE outer P w H s Q u s' :=
    fun {σ' H' v u} J rv q => ⟨v, H', J.os, J.bare, J.base, J.hok, rv, q⟩
  cases fl with
  | ret u =>
    obtain ⟨v, σ', H', J, rv, q⟩ := hs
    exact fin J rv q
  | next =>
    obtain ⟨σ', H', J, q⟩ := hs
    exact fin (v := V.non) (u := Value.none) J rfl q
  | brk =>
    obtain ⟨_, _, _, q⟩ := hs
    exact False.elim q
  | cont =>
    obtain ⟨_, _, _, q⟩ := hs
    exact False.elim q
end L2
namespace L2
open PySem PySem.Spec PyProof.Rows
section
variable {X : Cx} {x : Str} {p pos : Pos} {e : Expr} {es : List Expr} {t : TA} {id T : String} {r : List V -> Hp -> VK -> Prop}
def tCB (r : List V -> Hp -> VK -> Prop) (t : TA) : TE := fun σ H Q => t σ H fun vs H1 => r vs H1 Q
theorem pe_callB (hc : CallR X (.builtin id) r) (hg : Gl X x) (hm : X.mg x = none) (hv : bootBuiltins x = some (.builtin id)) (ha : PA X (e :: es) t) (hn : x ≠ "__name__" := by decide) (hdb : (x == ("__debug__" : Str)) = false := by decide)
    (he : starEach (e :: es) X.env = (false, eval e X.env) :: starEach es X.env := by rfl) (hpl : (backTo pos (starEach es X.env)).any (·.1) = false := by rfl) : PE X (.Call (.Name x p) (e :: es) [] pos) (tCB r t) := by
  intro pins s σ H Q I h
  refine wpAny_Call_Name_kw (ld_blt I hg hm hv ?_ hn hdb)
  exact PyProof.Rows.callWith_builtin1 (thn (ha pos pins s σ H _ I h) fun us s1 ⟨vs, H1, I1, r1, q1⟩ => hc pins s1 σ H1 vs us Q I1 r1 q1) he hpl
theorem pe_callTy (hc : CallR X (.type T) r) (hg : Gl X x) (hm : X.mg x = none) (hv : bootBuiltins x = some (.type T)) (ha : PA X (e :: es) t) (hn : x ≠ "__name__" := by decide) (hdb : (x == ("__debug__" : Str)) = false := by decide)
    (he : starEach (e :: es) X.env = (false, eval e X.env) :: starEach es X.env := by rfl) (hpl : (backTo pos (starEach es X.env)).any (·.1) = false := by rfl) : PE X (.Call (.Name x p) (e :: es) [] pos) (tCB r t) := by
  intro pins s σ H Q I h
  refine wpAny_Call_Name_kw (ld_blt I hg hm hv ?_ hn hdb)
  exact PyProof.Rows.callWith_type1 (thn (ha pos pins s σ H _ I h) fun us s1 ⟨vs, H1, I1, r1, q1⟩ => hc pins s1 σ H1 vs us Q I1 r1 q1) he hpl
end
end L2
namespace HT
open PySem PyProof.Rows
section
variable {prog : Program} {w : World} {A : Around} {E : Value -> Shared -> Prop} {s : Shared}
def sIx (n d : Nat) : Option Int -> Nat
  | none => d
  | some v => if v < 0 then (v + (n : Int)).toNat else min v.toNat n
theorem sIx_none (n d : Nat) : sIx n d none = d := rfl
theorem sIx_nat (n d k : Nat) : sIx n d (some (k : Int)) = min k n := by
  show (if (k : Int) < 0 then ((k : Int) + (n : Int)).toNat else min (k : Int).toNat n) = min k n
  rw [if_neg (by omega), Int.toNat_natCast]
end
end HT
namespace L2
open PySem PySem.Spec PyProof.Rows
abbrev TO := St -> Hp -> (Option Int -> Hp -> Prop) -> Prop
def PO (X : Cx) (e : Option Expr) (t : TO) : Prop :=
  ∀ (pins : List (Addr × Obj)) (s : Shared) (σ : St) (H : Hp) (Q : Option Int -> Hp -> Prop), Inv X pins σ H s -> t σ H Q ->
    wpAny (model X.prog X.w) X.A (evalPart e X.env) (fun u s' => ∃ o H', Inv X pins σ H' s' /\ IsPart u o /\ Q o H') X.xe s
def tNoPart : TO := fun _ H Q => Q none H
def tPart (t : TE) : TO := fun σ H Q => t σ H fun x H1 => ∃ i, x = .int i /\ Q (some i) H1
theorem intsAre_of {ns : List Int} : ∀ {us : List Value}, Vals (ns.map V.int) us -> IntsAre us ns := by
  induction ns with
  | nil => intro us r; rw [List.map_nil] at r; cases r; exact .nil
  | cons n ns ih =>
    intro us r
    rw [List.map_cons] at r
    cases r with
    | cons r1 r2 =>
      obtain ⟨t, e⟩ := r1
      subst e
      exact .cons n t (ih r2)
section
variable {X : Cx} {e : Expr} {te : TE} {lo hi : Option Expr} {tl th : TO} {pos p2 : Pos}
theorem po_none : PO X none tNoPart := by
  intro pins s σ H Q I h
  rw [evalPart_none]
  exact wpAny_pure ⟨none, H, I, .none, h⟩
theorem po_some (h : PE X e te) : PO X (some e) (tPart te) := by
  intro pins s σ H Q I hw
  rw [evalPart_some]
  refine thn (h pins s σ H _ I hw) fun u s1 ⟨x, H1, I1, r1, q1⟩ => ?_
  obtain ⟨i, rfl, q⟩ := q1
  obtain ⟨t, rfl⟩ := r1
  exact ⟨some i, H1, I1, .int i t, q⟩
def SlR (X : Cx) (r : V -> Option Int -> Option Int -> Hp -> VK -> Prop) : Prop :=
  ∀ (pins : List (Addr × Obj)) (s : Shared) (σ : St) (H : Hp) (x : V) (v vl vu : Value) (lo hi : Option Int) (sl : Addr) (Q : VK), Inv X pins σ H s -> RelV x v -> s.heap.IsSliceOf sl vl vu .none -> IsPart vl lo -> IsPart vu hi -> r x lo hi H Q ->
    ∃ T id, typeLookup (.type T) "__getitem__" = pure (some (.builtin id)) /\ s.TypeIs v T /\ wpAny (model X.prog X.w) X.A (getItem v (.ref sl)) (EP X pins σ Q) X.xe s
def tSl (r : V -> Option Int -> Option Int -> Hp -> VK -> Prop) (te : TE) (tl th : TO) : TE := fun σ H Q => te σ H fun x H1 => tl σ H1 fun l H2 => th σ H2 fun u H3 => r x l u H3 Q
theorem pe_slice {r : V -> Option Int -> Option Int -> Hp -> VK -> Prop} (hr : SlR X r) (he : PE X e te) (hl : PO X lo tl) (hu : PO X hi th) : PE X (.Subscript e (.Slice lo hi none p2) pos) (tSl r te tl th) := by
  intro pins s σ H Q I h
  refine Subscript_ (thn (he pins s σ H _ I h) fun v s1 ⟨x, H1, I1, r1, q1⟩ => ?_)
  refine wpAny_Slice (thn (hl pins s1 σ H1 _ I1 q1) fun vl s2 ⟨l, H2, I2, pl, q2⟩ => thn (hu pins s2 σ H2 _ I2 q2) fun vu s3 ⟨u, H3, I3, pu, q3⟩ => ?_)
  rw [evalPart_none]
  refine wpAny_pure ?_
  have I4 : Inv X pins σ H3 { s3 with heap := s3.heap.push { cls := .type "slice", data := .fields #[vl, vu, .none] } } := I3.kept (t' := s3.toks) fun b ob q => Heap.get?_push_of_some _ q
  obtain ⟨T, id, hT, ht, hg⟩ := hr pins { s3 with heap := s3.heap.push { cls := .type "slice", data := .fields #[vl, vu, .none] } } σ H3 x v vl vu l u s3.heap.objs.size Q I4 r1 (Heap.IsSliceOf.new ..) pl pu q3
  show wpAny (model X.prog X.w) X.A (subscriptTail e (.Slice lo hi none p2) v (.ref s3.heap.objs.size)) (EP X pins σ Q) X.xe { s3 with heap := s3.heap.push { cls := .type "slice", data := .fields #[vl, vu, .none] } }
  exact tail_any (ops := [.ref s3.heap.objs.size, v]) ht hT hg (by with_unfolding_all rfl)
def cutV (xs : List V) (lo hi : Option Int) : List V := (xs.drop (HT.sIx xs.length 0 lo)).take (HT.sIx xs.length xs.length hi - HT.sIx xs.length 0 lo)
theorem cutV_length (xs : List V) (lo hi : Option Int) : (cutV xs lo hi).length <= xs.length := by
  unfold cutV
  rw [List.length_take, List.length_drop]
  omega
end
end L2
namespace L2
open PySem PySem.Spec PyProof.Rows
def ixN (n : Nat) (i : Int) : Option Nat := if 0 <= i then (if i < n then some i.toNat else none) else if -(n : Int) <= i then some (i + n).toNat else none
def atI {α : Type} (xs : List α) (i : Int) : Option α := (ixN xs.length i).bind fun j => xs[j]?
theorem ixN_seq {n : Nat} {i : Int} {j : Nat} (h : ixN n i = some j) : seqIndex? i n = some j /\ j < n /\ -(n : Int) <= i /\ i < n := by
  unfold ixN at h
  by_cases h0 : 0 <= i
  · rw [if_pos h0] at h
    by_cases h1 : i < n
    · rw [if_pos h1] at h
      have e : i.toNat = j := Option.some.inj h
      exact ⟨by rw [seqIndex_of h0 h1, e], by omega, by omega, h1⟩
    · rw [if_neg h1] at h; cases h
  · rw [if_neg h0] at h
    by_cases h1 : -(n : Int) <= i
    · rw [if_pos h1] at h
      have e : (i + n).toNat = j := Option.some.inj h
      exact ⟨by rw [seqIndex_neg (by omega) h1, e], by omega, h1, by omega⟩
    · rw [if_neg h1] at h; cases h
theorem atI_get {α : Type} {xs : List α} {i : Int} {v : α} (h : atI xs i = some v) : ∃ j, seqIndex? i xs.length = some j /\ xs[j]? = some v /\ j < xs.length /\ -(xs.length : Int) <= i /\ i < xs.length := by
  unfold atI at h
  cases e : ixN xs.length i with
  | none => rw [e] at h; cases h
  | some j =>
    rw [e] at h
    obtain ⟨h1, h2, h3, h4⟩ := ixN_seq e
    exact ⟨j, h1, h, h2, h3, h4⟩
theorem atI_nat {α : Type} {xs : List α} {j : Nat} {v : α} (h : xs[j]? = some v) : atI xs (j : Int) = some v := by
  have hj : j < xs.length := (List.getElem?_eq_some_iff.mp h).1
  have e : ixN xs.length (j : Int) = some j := by
    unfold ixN
    rw [if_pos (by omega), if_pos (by omega)]; simp
  unfold atI; rw [e]; exact h
def PlainIx (b : Expr) : Prop := ∀ o i, subscripted b false o i = operate [o, i] (getItem o i)
def IxR (X : Cx) (r : R2) : Prop :=
  ∀ (value slice : Expr) (pins : List (Addr × Obj)) (s : Shared) (σ : St) (H : Hp) (x y : V) (v u : Value) (Q : VK), Inv X pins σ H s -> RelV x v -> RelV y u -> r x y H Q ->
    subscripted slice false v u = operate [v, u] (getItem v u) -> wpAny (model X.prog X.w) X.A (subscriptTail value slice v u) (EP X pins σ Q) X.xe s
def MtR (X : Cx) (id : String) (r : V -> List V -> Hp -> VK -> Prop) : Prop :=
  ∀ (pins : List (Addr × Obj)) (s : Shared) (σ : St) (H : Hp) (x : V) (xs : List V) (v : Value) (us : List Value) (Q : VK), Inv X pins σ H s -> RelV x v -> Vals xs us -> r x xs H Q ->
    wpAny (model X.prog X.w) X.A (call (.builtin id) (v :: us)) (EP X pins σ Q) X.xe s
section
variable {X : Cx} {a b : Expr} {ta tb : TE} {pos : Pos}
theorem pe_ix {r : R2} (hr : IxR X r) (ha : PE X a ta) (hb : PE X b tb) (hs : PlainIx b) : PE X (.Subscript a b pos) (tOp r ta tb) := by
  intro pins s σ H Q I h
  exact Subscript_ (binT ha hb I h fun v u s2 x y H2 I2 rx ry q => hr a b pins s2 σ H2 x y v u Q I2 rx ry q (hs _ _))
def rIxL (K : PySem.W.Frag) : R2 := fun x y H Q => ∃ p xs i v, x = .ref p /\ y = .int i /\ SqL K H p xs /\ atI xs i = some v /\ Q v H
def rIxT (K : PySem.W.Frag) : R2 := fun x y H Q => ∃ p xs i v, x = .ref p /\ y = .int i /\ SqT K H p xs /\ atI xs i = some v /\ Q v H
def rIxS : R2 := fun x y H Q => ∃ z i c, x = .str z /\ y = .int i /\ z.length <= sizeLine /\ atI z.cps.toList i = some c /\ Q (.str ⟨#[c]⟩) H
theorem ix_list : IxR X (rIxL X.K) := by
  intro value slice pins s σ H x y v u Q I rx ry h hs
  obtain ⟨p, xs, i, z, rfl, rfl, hq, he, q⟩ := h
  cases rx
  obtain ⟨t, rfl⟩ := ry
  obtain ⟨its, r, pl, hz⟩ := I.list hq
  obtain ⟨j, h1, h2, h3, h4, h5⟩ := atI_get he
  obtain ⟨w, ew, rw'⟩ := r.get h2
  have hl := r.length
  have hn := line63
  have fin : EP X pins σ Q w s := ⟨z, H, I, rw', q⟩
  by_cases h0 : 0 <= i
  · have hj : i.toNat = j := by
      rw [seqIndex_of h0 h5] at h1
      exact Option.some.inj h1
    exact item_listR pl.isList h0 (by omega) (by rw [hj]; simpa using ew) fin hs
  · have hj : (i + (its.toArray.size : Int)).toNat = j := by
      rw [seqIndex_neg (by omega) h4] at h1
      rw [List.size_toArray, <- hl]
      exact Option.some.inj h1
    exact subscriptTail_builtinR (x := w) pl.isList.typeIs slot_list_getitem.lookup
      (wpAny_getItem_list_neg (Q := fun r s' => r = w /\ EP X pins σ Q r s') pl.isList (by omega) (by rw [List.size_toArray] <;> omega) (by omega) (by rw [hj]; simpa using ew) ⟨rfl, fin⟩) hs
theorem ix_tup : IxR X (rIxT X.K) := by
  intro value slice pins s σ H x y v u Q I rx ry h hs
  obtain ⟨p, xs, i, z, rfl, rfl, hq, he, q⟩ := h
  cases rx
  obtain ⟨t, rfl⟩ := ry
  obtain ⟨its, r, pl, hz⟩ := I.tuple hq
  obtain ⟨j, h1, h2, h3, h4, h5⟩ := atI_get he
  obtain ⟨w, ew, rw'⟩ := r.get h2
  have hl := r.length
  have hn := line63
  have fin : EP X pins σ Q w s := ⟨z, H, I, rw', q⟩
  exact subscriptTail_builtinR (x := w) pl.typeIs slot_tuple_getitem.lookup
    (getItem_tuple (j := j) (Q := fun r s' => r = w /\ EP X pins σ Q r s') pl (by omega) (by omega) (by rw [List.size_toArray, <- hl]; exact h1) (by simpa using ew) ⟨rfl, fin⟩) hs
theorem ix_str : IxR X rIxS := by
  intro value slice pins s σ H x y v u Q I rx ry h hs
  obtain ⟨z, i, c, rfl, rfl, hz, he, q⟩ := h
  obtain ⟨t, rfl⟩ := rx
  obtain ⟨t', rfl⟩ := ry
  obtain ⟨j, h1, h2, h3, h4, h5⟩ := atI_get he
  have hl : z.cps.toList.length = z.length := by simp [Str.length]
  rw [hl] at h1 h4 h5
  have hn := line63
  exact tail_any (typeIs_str s z t) slot_str_getitem.lookup (getItem_str (c := c) (by
    have e1 : decide (i < -(2 ^ 63 : Int)) = false := decide_eq_false (by omega)
    have e2 : decide (i >= 2 ^ 63) = false := decide_eq_false (by omega)
    rw [e1, e2, Bool.or_false]) (by rw [h1]; simpa using h2) ⟨.str ⟨#[c]⟩, H, I.tok _, ⟨_, rfl⟩, q⟩) hs
theorem mapSeq_set (its : List Value) (n j : Nat) (u : Value) : Obj.mapSeq (·.setIfInBounds j u) { cls := .type "list", data := .seq its.toArray n } = { cls := .type "list", data := .seq (its.set j u).toArray n } := by
  simp [Obj.mapSeq]
theorem Inv.lst {pins : List (Addr × Obj)} {σ : St} {H : Hp} {s : Shared} {p : Addr} {xs : List V} (I : Inv X pins σ H s) (h : H p = some (.lst xs)) :
    ∃ (its : List Value) (n : Nat), Vals xs its /\ s.heap.get? p = some { cls := .type "list", data := .seq its.toArray n } /\ xs.length <= sizeLine := by
  obtain ⟨z, its, n, r, e⟩ := I.hok p _ h
  exact ⟨its, n, r, e, z⟩
theorem Inv.lstUpd {pins : List (Addr × Obj)} {σ : St} {H : Hp} {s : Shared} {p : Addr} {xs ys : List V} {its its' : List Value} {n n' : Nat} {f : Obj -> Obj} (I : Inv X pins σ H s) (h : H p = some (.lst xs))
    (ho : s.heap.get? p = some { cls := .type "list", data := .seq its.toArray n }) (hf : f { cls := .type "list", data := .seq its.toArray n } = { cls := .type "list", data := .seq its'.toArray n' }) (r : Vals ys its') (hz : ys.length <= sizeLine) (t : Nat) :
    Inv X pins σ (upd H p (.lst ys)) { s with heap := s.heap.update p f, toks := t } := by
  have e : (s.heap.update p f).get? p = some { cls := .type "list", data := .seq its'.toArray n' } := by
    rw [Heap.get?_update_self f ho (by rw [hf] <;> rfl), hf]
  refine I.write (x := p) (e := p) (by rw [h]; trivial) (.inl rfl) (fun b u hb q => (Heap.get?_update_other _ _ (Ne.symm hb)).trans q) ⟨_, e⟩ ?_
  exact ⟨hz, its', n', r, e⟩
def rSetL : V -> V -> V -> Hp -> (Hp -> Prop) -> Prop := fun o i v H Q => ∃ p xs k j, o = .ref p /\ i = .int k /\ H p = some (.lst xs) /\ ixN xs.length k = some j /\ Q (upd H p (.lst (xs.set j v)))
theorem set_list : PSet X rSetL := by
  intro pins s σ H o i v ov iv u Q I ro ri rv h
  obtain ⟨p, xs, k, j, rfl, rfl, hp, hj, q⟩ := h
  cases ro
  obtain ⟨t, rfl⟩ := ri
  obtain ⟨its, n, r, ho, hz⟩ := I.lst hp
  obtain ⟨h1, h2, h3, h4⟩ := ixN_seq hj
  have hl := r.length
  have hn := line63
  have I' : Inv X pins σ (upd H p (.lst (xs.set j v))) { s with heap := s.heap.update p (Obj.mapSeq (·.setIfInBounds j u)) } :=
    I.lstUpd hp ho (mapSeq_set its n j u) (r.set rv j) (by rw [List.length_set]; exact hz) s.toks
  by_cases h0 : 0 <= k
  · have hk : k.toNat = j := by
      rw [seqIndex_of h0 h4] at h1
      exact Option.some.inj h1
    exact PySem.W.ki_setAt ho h0 (by omega) (by rw [List.size_toArray, <- hl]; exact h4) (by rw [hk]; exact ⟨_, I', q⟩)
  · have hk : (k + (its.toArray.size : Int)).toNat = j := by
      rw [seqIndex_neg (by omega) h3] at h1
      rw [List.size_toArray, <- hl]
      exact Option.some.inj h1
    exact PySem.W.ki_setBack ho (by omega) (by rw [List.size_toArray, <- hl]; exact h3) (by omega) (by rw [hk]; exact ⟨_, I', q⟩)
theorem slice_bounds (lo hi : Option Int) (n : Nat) : (sliceBounds lo hi none n).1 = ((HT.sIx n 0 lo : Nat) : Int) /\ (sliceBounds lo hi none n).2.1 = ((HT.sIx n n hi : Nat) : Int) /\ (sliceBounds lo hi none n).2.2 = 1 := by
  refine ⟨?_, ?_, rfl⟩
  · cases lo with
    | none => simp [sliceBounds, HT.sIx]
    | some i =>
      simp only [sliceBounds, HT.sIx, Option.getD_none, show (1 : Int) > 0 by decide, if_true]
      by_cases h : i < 0
      · simp only [h, if_true] <;> omega
      · simp only [h, if_false] <;> omega
  · cases hi with
    | none => simp [sliceBounds, HT.sIx]
    | some i =>
      simp only [sliceBounds, HT.sIx, Option.getD_none, show (1 : Int) > 0 by decide, if_true]
      by_cases h : i < 0
      · simp only [h, if_true] <;> omega
      · simp only [h, if_false] <;> omega
theorem slicePick_cut (its : List Value) (lo hi : Option Int) : slicePick its.toArray lo hi none = ((its.drop (HT.sIx its.length 0 lo)).take (HT.sIx its.length its.length hi - HT.sIx its.length 0 lo)).toArray := by
  obtain ⟨h1, h2, h3⟩ := slice_bounds lo hi its.toArray.size
  unfold slicePick
  rw [h1, h2, h3]
  simp only [sliceRange_one, pick_run, List.size_toArray] <;> rfl
def rSlL (K : PySem.W.Frag) : V -> Option Int -> Option Int -> Hp -> VK -> Prop := fun x lo hi H Q => ∃ a xs, x = .ref a /\ SqL K H a xs /\ ∀ p, H p = none -> Q (.ref p) (upd H p (.lst (cutV xs lo hi)))
theorem sl_list : SlR X (rSlL X.K) := by
  intro pins s σ H x v vl vu lo hi sl Q I rx hs pl pu h
  obtain ⟨a, xs, rfl, hx, q⟩ := h
  cases rx
  obtain ⟨its, r, ht, hz⟩ := I.list hx
  have hlen := r.length
  refine ⟨"list", _, slot_list_getitem.lookup, ht.isList.typeIs, ?_⟩
  refine wpAny_getItem_list_slice ht.isList hs pl pu .none (by simp) ?_ (by rw [List.size_toArray] <;> omega)
  rw [slicePick_cut, <- hlen]
  refine ⟨.ref s.heap.objs.size, _, I.laid (t' := s.toks) (o := .lst (cutV xs lo hi)) (fun b ob q => Heap.get?_push_of_some _ q) (Nat.le_refl _) ?_, rfl, q _ (I.hok.fresh (Nat.le_refl _))⟩
  exact ⟨Nat.le_trans (cutV_length xs lo hi) hz, _, 0, (r.drop (HT.sIx xs.length 0 lo)).take (HT.sIx xs.length xs.length hi - HT.sIx xs.length 0 lo), Heap.get?_push_size _ rfl⟩
def flatV : V -> Bool
  | .non => true
  | .bl _ => true
  | .int _ => true
  | .str _ => true
  | _ => false
def eqV : V -> V -> Bool
  | .non, .non => true
  | .bl a, .bl b => a == b
  | .bl a, .int b => (if a then 1 else 0) == b
  | .int a, .bl b => a == (if b then 1 else 0)
  | .int a, .int b => a == b
  | .str a, .str b => a == b
  | _, _ => false
theorem eqAt_V {A : Around} {s : Shared} {y x : V} {u v : Value} (ry : RelV y u) (rx : RelV x v) (fy : flatV y = true) (fx : flatV x = true) : SeqAt.EqAt A s u v (eqV y x) := by
  cases y with
  | non =>
    cases ry
    cases x with
    | non => cases rx; exact SeqAt.EqAt.same _
    | bl b => cases rx; exact SeqAt.EqAt.none_bool b
    | int b => obtain ⟨t, rfl⟩ := rx; exact SeqAt.EqAt.none_int b t
    | str b => obtain ⟨t, rfl⟩ := rx; exact SeqAt.EqAt.none_str b t
    | _ => exact absurd (show false = true from fx) Bool.false_ne_true
  | bl a =>
    cases ry
    cases x with
    | non => cases rx; exact SeqAt.EqAt.bool_none a
    | bl b => cases rx; exact SeqAt.EqAt.bool_bool a b
    | int b => obtain ⟨t, rfl⟩ := rx; exact SeqAt.EqAt.bool_int a b t
    | str b => obtain ⟨t, rfl⟩ := rx; exact SeqAt.EqAt.bool_str a b t
    | _ => exact absurd (show false = true from fx) Bool.false_ne_true
  | int a =>
    obtain ⟨t', rfl⟩ := ry
    cases x with
    | non => cases rx; exact SeqAt.EqAt.int_none a t'
    | bl b => cases rx; exact SeqAt.EqAt.int_bool a t' b
    | int b => obtain ⟨t, rfl⟩ := rx; exact SeqAt.EqAt.int_int a t' b t
    | str b => obtain ⟨t, rfl⟩ := rx; exact SeqAt.EqAt.int_str a t' b t
    | _ => exact absurd (show false = true from fx) Bool.false_ne_true
  | str a =>
    obtain ⟨t', rfl⟩ := ry
    cases x with
    | non => cases rx; exact SeqAt.EqAt.str_none a t'
    | bl b => cases rx; exact SeqAt.EqAt.str_bool a t' b
    | int b => obtain ⟨t, rfl⟩ := rx; exact SeqAt.EqAt.str_int a t' b t
    | str b => obtain ⟨t, rfl⟩ := rx; exact SeqAt.EqAt.str_str a t' b t
    | _ => exact absurd (show false = true from fx) Bool.false_ne_true
  | _ => exact absurd (show false = true from fy) Bool.false_ne_true
def eqU (x : V) (u : Value) : Bool := match u with
  | .none => eqV .non x
  | .bool b => eqV (.bl b) x
  | .int i _ => eqV (.int i) x
  | .str z _ => eqV (.str z) x
  | _ => false
theorem eqU_of {x y : V} {u : Value} (r : RelV y u) (f : flatV y = true) : eqU x u = eqV y x := by
  cases y with
  | non => cases r; rfl
  | bl b => cases r; rfl
  | int i => obtain ⟨t, rfl⟩ := r; rfl
  | str z => obtain ⟨t, rfl⟩ := r; rfl
  | _ => exact absurd (show false = true from f) Bool.false_ne_true
theorem any_eqU {x : V} : ∀ {xs : List V} {us : List Value}, Vals xs us -> xs.all flatV = true -> us.any (eqU x) = xs.any fun y => eqV y x
  | _, _, .nil, _ => rfl
  | y :: xs, u :: us, .cons r t, f => by
    rw [List.all_cons, Bool.and_eq_true] at f
    rw [List.any_cons, List.any_cons, eqU_of r f.1, any_eqU t f.2]
theorem mem_eqAt {A : Around} {s : Shared} {x : V} {v : Value} (rx : RelV x v) (fx : flatV x = true) : ∀ {xs : List V} {us : List Value}, Vals xs us -> xs.all flatV = true -> ∀ u ∈ us, SeqAt.EqAt A s u v (eqU x u)
  | _, _, .nil, _ => fun u hu => by cases hu
  | y :: xs, u :: us, .cons r t, f => fun u' hu => by
    rw [List.all_cons, Bool.and_eq_true] at f
    rcases List.mem_cons.mp hu with rfl | hu
    · rw [eqU_of r f.1]; exact eqAt_V r rx f.1 fx
    · exact mem_eqAt rx fx t f.2 u' hu
def inV (x : V) (xs : List V) : Bool := xs.any fun y => eqV y x
def rIn (K : PySem.W.Frag) (neg : Bool) : R2 := fun x y H Q => ∃ p xs, y = .ref p /\ (SqL K H p xs \/ SqT K H p xs) /\ flatV x = true /\ xs.all flatV = true /\ Q (.bl (if neg then !inV x xs else inV x xs)) H
theorem op_in_seq : OpR X (compareOp .In) (rIn X.K false) := by
  intro pins s σ H x y v u Q I rx ry h
  obtain ⟨p, xs, rfl, hq, fx, fs, q⟩ := h
  cases ry
  rcases hq with hq | hq
  · obtain ⟨its, r, pl, hz⟩ := I.list hq
    refine SeqAt.in_listAt (eqU x) pl.isList (fun w hw => mem_eqAt rx fx r fs w (by simpa using hw)) ⟨.bl _, H, I, rfl, ?_⟩
    rw [show its.toArray.any (eqU x) = its.any (eqU x) by simp, any_eqU r fs]
    exact q
  · obtain ⟨its, r, pl, hz⟩ := I.tuple hq
    refine SeqAt.in_tupleAt (eqU x) pl (fun w hw => mem_eqAt rx fx r fs w (by simpa using hw)) ⟨.bl _, H, I, rfl, ?_⟩
    rw [show its.toArray.any (eqU x) = its.any (eqU x) by simp, any_eqU r fs]
    exact q
theorem op_notIn_seq : OpR X (compareOp .NotIn) (rIn X.K true) := by
  intro pins s σ H x y v u Q I rx ry h
  obtain ⟨p, xs, rfl, hq, fx, fs, q⟩ := h
  cases ry
  rcases hq with hq | hq
  · obtain ⟨its, r, pl, hz⟩ := I.list hq
    refine SeqAt.notIn_listAt (eqU x) pl.isList (fun w hw => mem_eqAt rx fx r fs w (by simpa using hw)) ⟨.bl _, H, I, rfl, ?_⟩
    rw [show its.toArray.any (eqU x) = its.any (eqU x) by simp, any_eqU r fs]
    exact q
  · obtain ⟨its, r, pl, hz⟩ := I.tuple hq
    refine SeqAt.notIn_tupleAt (eqU x) pl (fun w hw => mem_eqAt rx fx r fs w (by simpa using hw)) ⟨.bl _, H, I, rfl, ?_⟩
    rw [show its.toArray.any (eqU x) = its.any (eqU x) by simp, any_eqU r fs]
    exact q
theorem call_len_seq : CallR X (.builtin "len") (fun xs H Q => ∃ p ys, xs = [.ref p] /\ (SqL X.K H p ys \/ SqT X.K H p ys) /\ Q (.int ys.length) H) := by
  intro pins s σ H xs us Q I r h
  obtain ⟨p, ys, rfl, hq, q⟩ := h
  obtain ⟨u, rfl, rx⟩ := vals1 r
  cases rx
  have hn := line63
  rcases hq with hq | hq
  · obtain ⟨its, r', pl, hz⟩ := I.list hq
    have hlen := r'.length
    exact Calls.call_len_list pl.isList (by simp only [List.size_toArray] <;> omega) ⟨.int ys.length, H, I.tok _, ⟨s.toks + 1, by rw [List.size_toArray, hlen]⟩, q⟩
  · obtain ⟨its, r', pl, hz⟩ := I.tuple hq
    have hlen := r'.length
    exact len_tuple pl (by simp only [List.size_toArray] <;> omega) ⟨.int ys.length, H, I.tok _, ⟨s.toks + 1, by rw [List.size_toArray, hlen]⟩, q⟩
theorem call_len_str : CallR X (.builtin "len") (fun xs H Q => ∃ z, xs = [.str z] /\ z.length <= sizeLine /\ Q (.int z.length) H) := by
  intro pins s σ H xs us Q I r h
  obtain ⟨z, rfl, hz, q⟩ := h
  obtain ⟨u, rfl, t, rfl⟩ := vals1 r
  have hn := line63
  exact len_str (by omega) ⟨.int z.length, H, I.tok _, ⟨_, rfl⟩, q⟩
theorem call_tuple_of : CallR X (.type "tuple") (fun xs H Q => ∃ p ys, xs = [.ref p] /\ ((SqL X.K H p ys /\ ∀ l, H l = none -> Q (.ref l) (upd H l (.tup ys))) \/ (SqT X.K H p ys /\ Q (.ref p) H))) := by
  intro pins s σ H xs us Q I r h
  obtain ⟨p, ys, rfl, h⟩ := h
  obtain ⟨u, rfl, rx⟩ := vals1 r
  cases rx
  rcases h with ⟨hq, q⟩ | ⟨hq, q⟩
  · obtain ⟨its, r', pl, hz⟩ := I.list hq
    have hlen := r'.length
    refine call_tuple_list pl.isList (fun h' kp => ?_) (by simp only [List.size_toArray] <;> omega)
    have I1 : Inv X pins σ H { s with heap := h' } := I.kept (t' := s.toks) kp
    have I2 : Inv X pins σ (upd H h'.objs.size (.tup ys)) { s with heap := h'.push { cls := .type "tuple", data := .seq its.toArray } } :=
      I1.laid (t' := s.toks) (fun b o e => Heap.get?_push_of_some _ e) (Nat.le_refl _) (show ObjOk X.prog X.w _ _ _ (.tup ys) from ⟨hz, its, r', IsTup.new _ _⟩)
    exact ⟨.ref h'.objs.size, _, I2, rfl, q _ (I1.hok.fresh (Nat.le_refl _))⟩
  · obtain ⟨its, r', pl, hz⟩ := I.tuple hq
    exact call_tuple_same pl ⟨.ref p, H, I, rfl, q⟩
def tyV (K : PySem.W.Frag) (T : String) (x : V) (H : Hp) : Prop := match x with
  | .str _ => T = "str"
  | .int _ => T = "int"
  | .ref p => (T = "list" /\ ∃ xs, SqL K H p xs) \/ (T = "tuple" /\ ∃ o, K.lookup p = some o /\ o.cls = .type "tuple" /\ o.dict = none) \/
      (T = "dict" /\ ((∃ kvs, H p = some (.dK kvs)) \/ ∃ kvs, H p = some (.dT kvs))) \/ (T = "set" /\ ∃ S n, H p = some (.set S n))
  | _ => False
theorem tyV_is {pins : List (Addr × Obj)} {σ : St} {H : Hp} {s : Shared} {T : String} {x : V} {v : Value} (I : Inv X pins σ H s) (r : RelV x v) (ty : tyV X.K T x H) :
    s.TypeIs v T /\ ∀ a, v = .ref a -> ∃ ob, s.heap.get? a = some ob /\ ob.dict = none := by
  cases x with
  | str z =>
    obtain ⟨t, rfl⟩ := r
    cases (show T = "str" from ty)
    exact ⟨typeIs_str s z t, fun _ e => nomatch e⟩
  | int i =>
    obtain ⟨t, rfl⟩ := r
    cases (show T = "int" from ty)
    exact ⟨typeIs_int s i t, fun _ e => nomatch e⟩
  | ref p =>
    cases r
    rcases ty with ⟨rfl, xs, hq⟩ | ⟨rfl, o, hk, hc, hd⟩ | ⟨rfl, hk⟩ | ⟨rfl, S, n, hk⟩
    · obtain ⟨its, _, pl, _⟩ := I.list hq
      refine ⟨pl.isList.typeIs, fun a e => ?_⟩
      cases e
      obtain ⟨o, n, e, c, hd, _⟩ := pl
      exact ⟨o, e, hd⟩
    · refine ⟨⟨o, I.kIn p o hk, hc⟩, fun a e => ?_⟩
      cases e
      exact ⟨o, I.kIn _ o hk, hd⟩
    · have z : ∃ o, s.heap.get? p = some o /\ o.ExactDict := by
        rcases hk with ⟨kvs, hk⟩ | ⟨kvs, hk⟩
        · obtain ⟨_, _, _, _, o, _, _, e, ex, _⟩ := I.hok p _ hk
          exact ⟨o, e, ex⟩
        · obtain ⟨_, _, _, _, o, _, _, e, ex, _⟩ := I.hok p _ hk
          exact ⟨o, e, ex⟩
      obtain ⟨o, e, ex⟩ := z
      refine ⟨⟨o, e, ex.1⟩, fun a e2 => ?_⟩
      cases e2
      exact ⟨o, e, ex.2.1⟩
    · obtain ⟨o, _, _, _, e, ex, _⟩ := I.hok p _ hk
      refine ⟨⟨o, e, ex.1⟩, fun a e2 => ?_⟩
      cases e2
      exact ⟨o, e, ex.2.1⟩
  | _ => exact False.elim ty
def tBM (K : PySem.W.Frag) (T : String) (r : V -> List V -> Hp -> VK -> Prop) (to : TE) (t : TA) : TE := fun σ H Q => to σ H fun x H1 => tyV K T x H1 /\ t σ H1 fun xs H2 => r x xs H2 Q
variable {o e : Expr} {es : List Expr} {to : TE} {t : TA} {name : Str} {apos cpos : Pos} {T id : String} {r : V -> List V -> Hp -> VK -> Prop}
theorem pe_bm (pa : PlainAttrs T) (slot : Slot T name id) (hty : typeOf (.builtin id) = pure (.type "method_descriptor")) (hm : MtR X id r) (ho : PE X o to) (ha : PA X (e :: es) t)
    (hbase : attributeBase o name X.env (eval o X.env) = eval o X.env := by rfl)
    (hfew : ((backTo cpos (starEach (e :: es) X.env)).all (fun x => !x.1) && (backToKw cpos (keywordEach [] X.env)).all (fun x => x.1.isSome)
      && decide ((e :: es).length + ([] : List Keyword).length + (if ([] : List Keyword).isEmpty then 0 else 1) < 30)) = true := by rfl)
    (hline : (apos.endLine == cpos.line) = true := by rfl) (hs : starEach (e :: es) X.env = (false, eval e X.env) :: starEach es X.env := by rfl) (hplain : (backTo cpos (starEach es X.env)).any (·.1) = false := by rfl) :
    PE X (.Call (.Attribute o name apos) (e :: es) [] cpos) (tBM X.K T r to t) := by
  intro pins s σ H Q I h
  refine wpAny_Call_method_late hbase hfew hline rfl (thn (ho pins s σ H _ I h) fun v s1 ⟨x, H1, I1, r1, ty, q1⟩ => ?_)
  obtain ⟨h1, h2⟩ := tyV_is I1 r1 ty
  refine ⟨T, id, pa, slot, hty, h1, h2, ?_⟩
  have hA := ha cpos pins s1 σ H1 _ I1 q1
  rw [hs] at hA ⊢
  refine Calls.callWith_builtin (by show (false || (backTo cpos (starEach es X.env)).any (·.1)) = false; rw [hplain] <;> rfl) (Calls.evalArgs_plain ?_)
  exact thn hA fun us s2 ⟨vs, H2, I2, r2, q2⟩ => hm pins s2 σ H2 x vs v us Q I2 r1 r2 q2
end
end L2
namespace L2
open PySem PySem.Spec PyProof.Rows
def MtM (X : Cx) (id : String) (r : V -> List V -> Hp -> VK -> Prop) : Prop :=
  ∀ (pins : List (Addr × Obj)) (s : Shared) (σ : St) (H : Hp) (x : V) (xs : List V) (v : Value) (us : List Value) (Q : VK), Inv X pins σ H s -> RelV x v -> Vals xs us -> r x xs H Q ->
    wpAny (model X.prog X.w) X.A (call (.builtin id) (v :: us)) (EP X pins σ Q) X.xe s
theorem Vals.one : ∀ {x : V} {us : List Value}, Vals [x] us -> ∃ u, us = [u] /\ RelV x u
  | _, _, .cons r .nil => ⟨_, rfl, r⟩
theorem Vals.rep {xs : List V} {us : List Value} (h : Vals xs us) : ∀ k : Nat, Vals (List.replicate k xs).flatten (List.replicate k us).flatten
  | 0 => .nil
  | k + 1 => by
    rw [List.replicate_succ, List.replicate_succ, List.flatten_cons, List.flatten_cons]
    exact Vals.append h (Vals.rep h k)
theorem foldl_rep (its : List Value) : ∀ (k : Nat) (acc : List Value),
    List.foldl (fun x1 x2 => x1 ++ x2) acc.toArray (List.replicate k its.toArray) = (acc ++ (List.replicate k its).flatten).toArray
  | 0, acc => by simp
  | k + 1, acc => by
    have e : acc.toArray ++ its.toArray = (acc ++ its).toArray := by simp
    have e2 : (acc ++ its) ++ (List.replicate k its).flatten = acc ++ (List.replicate (k + 1) its).flatten := by
      rw [List.replicate_succ, List.flatten_cons, List.append_assoc]
    rw [<- e2, <- foldl_rep its k (acc ++ its), <- e, List.replicate_succ, List.foldl_cons]
section
variable {X : Cx} {pins : List (Addr × Obj)} {σ : St} {H : Hp} {s : Shared} {l b : Addr} {xs ys zs : List V}
theorem Inv.lset {its its' : List Value} {n : Nat} {f : Array Value -> Array Value} {t' : Nat} (I : Inv X pins σ H s) (hH : H l = some (.lst xs))
    (e : s.heap.get? l = some { cls := .type "list", data := .seq its.toArray n }) (hf : f its.toArray = its'.toArray) (hv : Vals ys its') (hz : ys.length <= sizeLine) :
    Inv X pins σ (upd H l (.lst ys)) { s with heap := s.heap.update l (Obj.mapSeq f), toks := t' } := by
  have q := PySem.IsL.update e f
  rw [hf] at q
  refine I.write (x := l) (e := l) (by rw [hH]; exact trivial) (.inl rfl) (fun b' u hb hu => (Heap.get?_update_other s.heap (Obj.mapSeq f) (Ne.symm hb)).trans hu) ⟨_, q⟩ ?_
  exact ⟨hz, its', _, hv, q⟩
theorem Inv.lnew {its : List Value} {t' : Nat} (I : Inv X pins σ H s) (hv : Vals ys its) (hz : ys.length <= sizeLine) :
    Inv X pins σ (upd H s.heap.objs.size (.lst ys)) { s with heap := s.heap.push { cls := .type "list", data := .seq its.toArray }, toks := t' } :=
  I.laid (fun _ _ q => Heap.get?_push_of_some _ q) (Nat.le_refl _) ⟨hz, its, 0, hv, Heap.get?_push_size _ rfl⟩
theorem Inv.fresh (I : Inv X pins σ H s) : H s.heap.objs.size = none := I.hok.fresh (Nat.le_refl _)
theorem Inv.lstM (I : Inv X pins σ H s) (hH : H l = some (.lst xs)) : xs.length <= sizeLine /\ ∃ (its : List Value) (n : Nat), Vals xs its /\ xs.length = its.length /\ s.heap.get? l = some { cls := .type "list", data := .seq its.toArray n } := by
  obtain ⟨z, its, n, r, e⟩ := I.hok l _ hH
  exact ⟨z, its, n, r, r.length, e⟩
theorem notLongL {n : Nat} (h : n <= sizeLine) : Builtin.List.listTooLong n = false := by
  unfold Builtin.List.listTooLong
  exact decide_eq_false (by omega)
end
section
variable {X : Cx}
def rAppend : V -> List V -> Hp -> VK -> Prop := fun x vs H Q => ∃ l xs y, x = .ref l /\ vs = [y] /\ H l = some (.lst xs) /\ xs.length < sizeLine /\ Q .non (upd H l (.lst (xs ++ [y])))
theorem mt_append : MtM X "list.append" rAppend := by
  intro pins s σ H x vs v us Q I rx rv h
  obtain ⟨l, xs, y, rfl, rfl, hH, hz, q⟩ := h
  cases rx
  obtain ⟨u, rfl, ru⟩ := rv.one
  obtain ⟨z, its, n, r, hl, e⟩ := I.lstM hH
  refine call_meets F.slot_list_append ⟨_, e, rfl⟩ F.entry_list_append (F.args_list_append_2 _ _) (PySem.list_append l its.toArray n u (by rw [List.size_toArray]; omega)) ⟨e, ?_⟩
  refine ⟨.non, _, I.lset (its' := its ++ [u]) hH e (by simp) (r.append (.cons ru .nil)) ?_, rfl, q⟩
  rw [List.length_append, List.length_singleton]
  omega
def rExtend : V -> List V -> Hp -> VK -> Prop := fun x vs H Q => ∃ l b xs zs, x = .ref l /\ vs = [.ref b] /\ H l = some (.lst xs) /\ H b = some (.lst zs) /\ xs.length + zs.length <= sizeLine /\ Q .non (upd H l (.lst (xs ++ zs)))
theorem mt_extend : MtM X "list.extend" rExtend := by
  intro pins s σ H x vs v us Q I rx rv h
  obtain ⟨l, b, xs, zs, rfl, rfl, hH, hB, hz, q⟩ := h
  cases rx
  obtain ⟨u, rfl, ru⟩ := rv.one
  cases ru
  obtain ⟨z, its, n, r, hl, e⟩ := I.lstM hH
  obtain ⟨z2, its2, n2, r2, hl2, e2⟩ := I.lstM hB
  have hsz : its.toArray.size + its2.toArray.size <= sizeLine := by rw [List.size_toArray, List.size_toArray]; omega
  have hlong : ¬ (!its.toArray.isEmpty && Builtin.List.listTooLong (its.toArray.size + its2.toArray.size)) = true := by
    rw [notLongL hsz, Bool.and_false]
    exact Bool.false_ne_true
  refine call_meets F.slot_list_extend ⟨_, e, rfl⟩ F.entry_list_extend (F.args_list_extend_2 _ _)
    (AutoSeq1.list_extend_list_list_0 l its.toArray n b its2.toArray n2 hlong (by rw [List.size_toArray]; omega) (by omega)) ⟨e, e2, ?_⟩
  refine ⟨.non, _, I.lset (its' := its ++ its2) hH e (by simp) (r.append r2) ?_, rfl, q⟩
  rw [List.length_append]
  omega
def rCat : R2 := fun x y H Q => ∃ l b xs zs, x = .ref l /\ y = .ref b /\ H l = some (.lst xs) /\ H b = some (.lst zs) /\ xs.length + zs.length <= sizeLine /\ ∀ p, H p = none -> Q (.ref p) (upd H p (.lst (xs ++ zs)))
theorem op_cat : OpR X (binaryOp .Add) rCat := by
  intro pins s σ H x y v u Q I rx ry h
  obtain ⟨l, b, xs, zs, rfl, rfl, hH, hB, hz, q⟩ := h
  cases rx
  cases ry
  obtain ⟨z, its, n, r, hl, e⟩ := I.lstM hH
  obtain ⟨z2, its2, n2, r2, hl2, e2⟩ := I.lstM hB
  refine PySem.P.add_list e e2 ?_ (by rw [List.size_toArray, List.size_toArray]; omega)
  have ea : its.toArray ++ its2.toArray = (its ++ its2).toArray := by simp
  rw [ea]
  exact ⟨.ref _, _, I.lnew (t' := s.toks) (r.append r2) (by rw [List.length_append]; omega), rfl, q _ I.fresh⟩
def rRep : R2 := fun x y H Q => ∃ l k xs, x = .ref l /\ y = .int k /\ H l = some (.lst xs) /\ -(2 ^ 63) <= k /\ k < 2 ^ 63 /\ xs.length * k.toNat <= sizeLine /\
  ∀ p, H p = none -> Q (.ref p) (upd H p (.lst (List.replicate k.toNat xs).flatten))
theorem len_rep {α : Type} (xs : List α) (k : Nat) : (List.replicate k xs).flatten.length = k * xs.length := by
  induction k with
  | zero => simp
  | succ k ih => rw [List.replicate_succ, List.flatten_cons, List.length_append, ih, Nat.succ_mul, Nat.add_comm]
theorem op_rep : OpR X (binaryOp .Mult) rRep := by
  intro pins s σ H x y v u Q I rx ry h
  obtain ⟨l, k, xs, rfl, rfl, hH, h1, h2, hz, q⟩ := h
  cases rx
  obtain ⟨t, rfl⟩ := ry
  obtain ⟨z, its, n, r, hl, e⟩ := I.lstM hH
  have hlen : its.toArray.size * k.toNat <= sizeLine := by rw [List.size_toArray, <- hl]; exact hz
  have hcap : ¬ its.toArray.size * k.toNat > (2 ^ 63 - 1) / 8 := by
    have : (sizeLine : Nat) <= (2 ^ 63 - 1) / 8 := by decide
    omega
  have hfit : ¬ (!Builtin.List.listFitsIndex k) = true := by
    rw [fitsIndex_both h1 h2]
    exact Bool.false_ne_true
  have hlong : ¬ Builtin.List.listTooLong (its.toArray.size * k.toNat) = true := by
    rw [notLongL hlen]
    exact Bool.false_ne_true
  have hnew : List.foldl (fun x1 x2 => x1 ++ x2) #[] (List.replicate (if its.toArray.isEmpty = true then 0 else k.toNat) its.toArray) = (List.replicate k.toNat its).flatten.toArray := by
    have f0 : ∀ m : Nat, List.foldl (fun x1 x2 => x1 ++ x2) #[] (List.replicate m its.toArray) = (List.replicate m its).flatten.toArray := fun m => by
      have := foldl_rep its m []
      rw [List.nil_append] at this
      exact this
    rw [f0]
    cases its with
    | nil => simp
    | cons a r' => rw [if_neg (by simp)]
  refine wpAny_binaryOp_repeat_ref (T := "list") (U := "int") (by decide) ⟨_, e, rfl⟩ (fun s' => typeIs_int s' k t) noFill_list_mul F.fills_int_mul F.slot_int_rmul repeat_list F.slot_int_index.lookup
    (call_meets F.slot_int_rmul (typeIs_int s k t) F.entry_int_rmul (F.args_int_rmul_2 _ _) (int___rmul___int_list k t l its.toArray n)
      ⟨e, rfl, ⟨_, e, rfl⟩, call_meets F.slot_list_mul ⟨_, e, rfl⟩ F.entry_list_mul (F.args_list_mul_2 _ _) (AutoListH.list___mul___list_int_3 l its.toArray n k t hfit hcap hlong) ⟨e, ?_⟩⟩)
  rw [hnew]
  exact ⟨.ref _, _, I.lnew (t' := s.toks) (r.rep k.toNat) (by rw [len_rep, Nat.mul_comm]; exact hz), rfl, q _ I.fresh⟩
end
end L2
namespace Att
open PySem PySem.W PySem.Calls PyProof.Rows
theorem ints_of_wellAll {P : Params} {h : Heap} : ∀ (ns : List Int) (vs : List Value), WellAll P h vs (ns.map WData.int) -> IntsAre vs ns := by
  intro ns
  induction ns with
  | nil =>
    intro vs w
    rw [List.map_nil] at w
    cases w
    exact .nil
  | cons n ns ih =>
    intro vs w
    rw [List.map_cons] at w
    cases w with
    | cons a b =>
      cases a
      exact .cons _ _ (ih _ b)
theorem script_of {l : OpenLaw} {n : Nat} (hn : l.most = some n) {P : Params} {h : Heap} {args : List WData} {vals : List Value}
    (hpre : l.row.toRowW.claim.pre args = true) (hwl : WellAll P h vals args) :
    ∃ a vs ns, vals = [Value.ref a] /\ args = [WData.list (ns.map WData.int)] /\ h.get? a = some { cls := .type "list", data := .seq vs.toArray } /\ IntsAre vs ns /\ ns.length <= n := by
  have hsh : WShape.hasAll [] args [.list .int] = true := (pre_splitW hpre).1
  have hc : l.pre.holds [] { args := args } = true := (pre_splitW hpre).2
  obtain ⟨d, r, rfl, h1, h2⟩ := hasAllW_cons hsh
  obtain rfl := hasAllW_nil h2
  obtain ⟨xs, rfl, h3⟩ := hasW_list h1
  obtain ⟨ns, rfl⟩ := items_int h3
  have hlen : ns.length <= n := by
    unfold OpenLaw.pre at hc
    have h4 : (WTm.not (.lt (.lit (.int (n : Int))) (.len (.arg 0)))).holds [] { args := [.list (ns.map .int)] } = true := by
      have h4 := (holds_andW hc).1
      rw [hn] at h4
      exact h4
    have h5 := condW_of h4 (w_not (w_lt w_lit (w_len_list (w_arg rfl))))
    rw [List.length_map] at h5
    refine Nat.le_of_not_lt fun q => ?_
    have q' : (n : Int) < ((ns.length : Nat) : Int) := by omega
    first
      | (rw [decide_eq_true q'] at h5; exact absurd h5 (by decide))
      | (simp at h5; omega)
  cases hwl with
  | cons w1 w2 =>
    cases w2
    cases w1 with
    | list ho hall => exact ⟨_, _, ns, rfl, rfl, ho, ints_of_wellAll ns _ hall, hlen⟩
theorem post_true (l : OpenLaw) (args : List WData) : l.row.toRowW.claim.post args (.bool true) args = true :=
  postW_of (r := l.row.toRowW) (X := (true == true))
    (show WShape.has [] (.bool true) .bool = true by first | rfl | decide | simp [WShape.has, WShape.arms, WShape.armsAll])
    (show (WTm.eq .res (.lit (.bool true))).value [] { args := args, res := some (.bool true), after := args } = some (.bool (true == true)) from w_eq_bool (w_res rfl) w_lit) rfl
theorem attach_call {l : OpenLaw} {n : Nat} {q : Program} {loose : List Str} {XP : (Str -> Option Value) -> Heap -> Prop} {YP : World -> Heap -> Prop} {d : DefRec}
    (hn : l.most = some n) (hdf : d.params.defaults = [])
    (call : ∀ (w : World) (s₀ s₁ : Shared) (mg mb : Str -> Option Value) (fa : Addr) (o : Obj) (pm cd doc : Value) (a : Addr) (vs : List Value) (ns : List Int),
      Ground q loose [] XP w s₀ mg mb s₁.heap -> YP w s₁.heap ->
      s₁.heap.get? fa = some o -> o.data = .func (docDef d.name d.params d.body d.scope pm cd doc) -> s₁.heap.CodeRec cd d.name -> mg d.name = some (.ref fa) ->
      s₁.heap.get? a = some { cls := .type "list", data := .seq vs.toArray } -> IntsAre vs ns -> ns.length <= n -> s₁.gens = #[] ->
      codeAny (model l.prog w) callerA (.call (.ref fa) ⟨[.ref a], []⟩) (fun r s' => r = .ok (.ret (.bool true)) /\ OldK s₁.heap s'.heap /\ s'.os = s₁.os /\ AllBare s'.gens) s₁) :
    WalkO q loose XP YP l.row.toRowW d [] (fun f vs => PySem.call f vs) := by
  intro w s₀ s₁ mg mb G Y fa o pm cd doc dV kV ho hd hcd hD hmg hg args vals as hpre hlay hrd hwl hlo
  obtain rfl : dV = .none := Dflts.none hD hdf
  obtain rfl : kV = .none := Dflts.noKw hD
  obtain ⟨a, vs, ns, rfl, rfl, hobj, hints, hlen⟩ := script_of hn hpre hwl
  refine enter_call (codeAny_mono (call w s₀ s₁ mg mb fa o pm cd doc a vs ns G Y ho (fd_plain hd) hcd hmg hobj hints hlen hg) fun r s' hq => ?_)
  obtain ⟨rfl, h2, h3, h4⟩ := hq
  exact ⟨.inl ⟨.bool true, .bool true, [], rfl, fun _ => rfl, .bool true, post_true l _, fun _ => ⟨List.Pairwise.nil, fun _ hm => (nomatch hm)⟩⟩, h2, h3, h4⟩
end Att
namespace L2
open PySem PySem.Spec PyProof.Rows
theorem vals_ints : ∀ {vs : List Value} {ns : List Int}, IntsAre vs ns -> Vals (ns.map V.int) vs
  | _, _, .nil => .nil
  | _, _, .cons n t h => .cons ⟨t, rfl⟩ (vals_ints h)
def Only (H : Hp) : Prop := ∀ b, H b = none \/ ∃ o xs, H b = some (.frz o (.lst xs))
theorem law_call {P : Program} {w : World} {K : PySem.W.Frag} {mg mb : Str -> Option Value} {CX : CXT} {k : Nat} {fa a : Addr} {fd : FuncData} {x : Str} {sp : Sp} {s₁ : Shared} {vs : List Value} {ns : List Int}
    (KX : K.In s₁.heap) (hns : s₁.heap.Ns mainGlobals mg) (hb : s₁.heap.Ns builtinsNs mb) (hbb : ∀ x : Str, x ≠ "__name__" -> mb x = bootBuiltins x) (hlim : s₁.heap.NoLimit) (hg : s₁.gens = #[])
    (ha : s₁.heap.get? a = some { cls := .type "list", data := .seq vs.toArray }) (hi : IntsAre vs ns) (hl : ns.length <= sizeLine) (hr : Room k callerA)
    (F : ∀ base : Heap, K.In base -> base.Ns mainGlobals mg -> FnOk P w K mg base CX k fa fd [x] sp) (hbind : ∀ (s : Shared) (u : Value), BindsTo s fd ⟨[u], []⟩ [(x, u)])
    (hsp : ∀ H : Hp, Only H -> SqL K H a (ns.map V.int) -> sp [.ref a] H (fun v _ => v = .bl true) fun _ _ _ => False)
    (hCX : ∀ H e s', CX [] H s₁ (fun _ _ _ => False) e s' -> False) :
    codeAny (model P w) callerA (.call (.ref fa) ⟨[.ref a], []⟩) (fun r s' => r = .ok (.ret (.bool true)) /\ OldK s₁.heap s'.heap /\ s'.os = s₁.os /\ AllBare s'.gens) s₁ := by
  have rv := vals_ints hi
  have lenV := hi.length
  -- from an abstract heap in which nothing but the script may be tracked
  have core : ∀ H : Hp, Only H -> SqL K H a (ns.map V.int) -> HOk P w H s₁.heap -> (∀ b, H b ≠ none -> b = a) -> (H a ≠ none -> K.lookup a = none) ->
      codeAny (model P w) callerA (.call (.ref fa) ⟨[.ref a], []⟩) (fun r s' => r = .ok (.ret (.bool true)) /\ OldK s₁.heap s'.heap /\ s'.os = s₁.os /\ AllBare s'.gens) s₁ := by
    intro H hO hS hok hA hK
    have base_of : ∀ {b : Addr} {o : Obj}, s₁.heap.get? b = some o -> H b = none -> (hidT s₁.heap H).get? b = some o := fun e n => hidT_get e n
    have noA : ∀ {b : Addr} {o : Obj} {es : Array DictEntry} {ep : Nat}, s₁.heap.get? b = some o -> o.data = .dict es ep -> H b = none := fun {b o es ep} e d => by
      cases q : H b with
      | none => rfl
      | some u =>
        have e' : b = a := hA b (by rw [q]; simp)
        subst e'
        rw [ha] at e; cases e
        have d' : Data.seq vs.toArray _ = Data.dict es ep := d
        cases d'
    have nsK : ∀ {b : Addr} {m : Str -> Option Value}, s₁.heap.Ns b m -> (hidT s₁.heap H).Ns b m := fun {b m} ⟨o, es, ep, e, d, r⟩ => ⟨o, es, ep, base_of e (noA e d), d, r⟩
    have hKb : K.In (hidT s₁.heap H) := fun b o e => base_of (KX b o e) (by
      cases q : H b with
      | none => rfl
      | some u =>
        have e' : b = a := hA b (by rw [q]; simp)
        subst e'
        rw [hK (by rw [q]; simp)] at e; cases e)
    have hM : Mod K mg (hidT s₁.heap H) := ⟨hKb, nsK hns, ⟨mb, nsK hb, hbb⟩, let ⟨mc, h1, h2⟩ := hlim; ⟨mc, nsK h1, h2⟩⟩
    have e0 : Env0 P w K mg (hidT s₁.heap H) callerA [] s₁ H := ⟨rfl, hM, fun b o e => of_hidT e, Nat.le_of_eq (hidT_size _ _), trivial, fun b hb => absurd (show b ∈ ([] : List Addr) from hb) (by simp), hok, .of_eq hg⟩
    refine codeAny_mono ((F _ hKb (nsK hns)).run callerA [] s₁ H ⟨[.ref a], []⟩ [.ref a] [.ref a] _ _ hr e0 (hbind s₁ (.ref a)) (.cons rfl .nil) (hsp H hO hS)) fun r s' h => ?_
    cases r with
    | error e => exact (hCX H e s' h).elim
    | ok fl =>
      cases fl with
      | next => exact False.elim h
      | brk => exact False.elim h
      | cont => exact False.elim h
      | ret u =>
        obtain ⟨v, H', os, bare, un, hok', r', q⟩ := h
        have q' : v = .bl true := q
        subst q'
        obtain rfl : u = Value.bool true := r'
        refine ⟨rfl, OldK.of_keep fun b o e => ?_, os, bare⟩
        cases q : H b with
        | none => exact un.keep b o e q (by intro z; exact absurd (show b ∈ ([] : List Addr) from z) (by simp)) (by simp)
        | some u =>
          rcases hO b with z | ⟨ob, xs, z⟩
          · rw [q] at z; cases z
          · have z2 := un.frzs b ob _ z
            obtain ⟨e1, _⟩ := hok b _ z
            obtain ⟨e2, _⟩ := hok' b _ z2
            rw [e] at e1; cases e1
            exact e2
  cases hk : K.lookup a with
  | some o =>
    -- the script is one of the module's own objects
    have e := KX a o hk
    rw [ha] at e
    cases e
    refine core (fun _ => none) (fun _ => .inl rfl) (.inr ⟨_, vs.toArray, _, hk, rfl, rfl, rfl, by rw [List.size_toArray, lenV]; exact hl, by simpa using rv⟩) (fun b u z => by have z' : (none : Option HO) = some u := z; cases z') (fun b z => absurd rfl z) fun z => absurd rfl z
  | none =>
    refine core (fun b => if b = a then some (.frz { cls := .type "list", data := .seq vs.toArray } (.lst (ns.map V.int))) else none) (fun b => ?_) (.inl (.inr ⟨{ cls := .type "list", data := .seq vs.toArray }, if_pos rfl⟩)) (fun b u z => ?_) (fun b z => ?_) fun _ => hk
    · by_cases hb : b = a
      · exact .inr ⟨_, _, if_pos hb⟩
      · exact .inl (if_neg hb)
    · by_cases hb : b = a
      · have z' := (if_pos hb).symm.trans z
        cases z'
        subst hb
        exact ⟨ha, by rw [List.length_map]; exact hl, vs, _, rv, ha⟩
      · have z' := (if_neg hb).symm.trans z
        cases z'
    · by_cases hb : b = a
      · exact hb
      · exact absurd (if_neg hb) z
end L2
namespace L2
open PySem PySem.Spec PyProof.Rows
abbrev KOf {K : PySem.W.Frag} {h : Heap} (_ : K.In h) : PySem.W.Frag := K
theorem walk_of {l : PySem.W.OpenLaw} {n k : Nat} {q : Program} {loose : List Str} {XP : (Str -> Option Value) -> Heap -> Prop} {YP : World -> Heap -> Prop} {d : DefRec} {K : Params -> PySem.W.Frag} {CX : World -> CXT} {sp : World -> Sp} {x : Str}
    (hn : l.most = some n) (hn2 : n <= sizeLine) (hdf : d.params.defaults = []) (hr : Room k callerA)
    (hY : ∀ (w : World) (h : Heap), YP w h -> (K w.params).In h)
    (F : ∀ (w : World) (mg : Str -> Option Value) (fa : Addr) (h : Heap), (K w.params).In h -> h.Ns mainGlobals mg -> mg d.name = some (.ref fa) ->
      ∃ fd : FuncData, (∀ (s : Shared) (u : Value), BindsTo s fd ⟨[u], []⟩ [(x, u)]) /\
        ∀ base : Heap, (K w.params).In base -> base.Ns mainGlobals mg -> FnOk l.prog w (K w.params) mg base (CX w) k fa fd [x] (sp w))
    (hsp : ∀ (w : World) (H : Hp) (a : Addr) (ns : List Int), ns.length <= n -> Only H -> SqL (K w.params) H a (ns.map V.int) -> sp w [.ref a] H (fun v _ => v = .bl true) fun _ _ _ => False)
    (hCX : ∀ (w : World) (H : Hp) (s : Shared) (e : Value) (s' : Shared), CX w [] H s (fun _ _ _ => False) e s' -> False) :
    PySem.W.WalkO q loose XP YP l.row.toRowW d [] (fun f vs => PySem.call f vs) := by
  refine Att.attach_call hn hdf fun w s₀ s₁ mg mb fa o pm cd doc a vs ns G Y ho hd hcd hmg hobj hints hlen hg => ?_
  have KX := hY w _ Y
  obtain ⟨fd, hb, hF⟩ := F w mg fa _ KX G.T.g hmg
  exact law_call KX G.T.g G.T.b G.T.builtins G.T.nolimit hg hobj hints (Nat.le_trans hlen hn2) hr hF hb (fun H hO hS => hsp w H a ns hlen hO hS) fun H e s' => hCX w H s₁ e s'
end L2
namespace L2
open PySem PySem.Spec PyProof.Rows
def defArgs (s : Stmt) : Arguments := match s with
  | .FunctionDef _ a _ _ _ _ _ _ _ _ => a
  | _ => { posonlyargs := [], args := [], vararg := none, kwonlyargs := [], kw_defaults := [], kwarg := none, defaults := [] }
def defBody (s : Stmt) : List Stmt := match s with
  | .FunctionDef _ _ b _ _ _ _ _ _ _ => b
  | _ => []
def defScope (s : Stmt) : Scope := match s with
  | .FunctionDef _ _ _ _ _ _ sc _ _ _ => sc
  | _ => { kind := .function, names := [], isGenerator := false, isCoroutine := false }
abbrev CX0 : CXT := fun _ _ _ _ _ _ => False
abbrev E0 : XK := fun _ _ _ => False
theorem pass0 {X : Cx} : Passes CX0 X E0 := fun _ _ _ _ _ _ _ h => h.elim
structure Fun (K : PySem.W.Frag) (x qual : Str) (st : Stmt) (f : Addr) (fd : FuncData) : Prop where
  ex : ∃ (oc : Value) (od : Option Addr) (kV doc pm : Value) (an : Option Addr) (cdv ct : Value) (osl : Array (Option Value)),
    fd = PySem.W.fnOf x qual (defArgs st) (defBody st) (defScope st) .none kV doc pm an cdv ct /\ K.lookup f = some ⟨oc, od, .func fd, osl⟩ /\ PySem.W.codeIn K cdv qual = true
  kp : PySem.W.keepIn K (.ref f) = true
section
variable {P : Program} {w : World} {K : PySem.W.Frag} {mg : Str -> Option Value} {base : Heap}
theorem Fun.ok {x qual : Str} {st : Stmt} {f : Addr} {fd : FuncData} {N ps : List Str} {k : Nat} {sp : Sp} (F : Fun K x qual st f fd) (S : FnScope N ps (defScope st)) (len : ∀ vs H Q E, sp vs H Q E -> vs.length = ps.length)
    (hbody : ∀ (cdv : Value) (A : Around) (outer : List Env) (s : Shared) (H : Hp) (vs : List V) (Q : VK) (E : XK), Room k (A.deeper (envOfC qual (defScope st) s.heap.objs.size f cdv)) -> sp vs H Q E ->
      ∃ t, PSs (cxOf CX0 P w K mg base N qual (defScope st) f cdv A outer s H E).nox (defBody st) t /\ t { nx := fun _ H' => Q .non H', rt := Q } (start N vs) H) : FnOk P w K mg base CX0 (k + 1) f fd ps sp := by
  obtain ⟨oc, od, kV, doc, pm, an, cdv, ct, osl, rfl, lk, hcd⟩ := F.ex
  refine fn_of lk hcd S len fun A outer s H vs Q E hr hsp => ?_
  obtain ⟨t, h, q⟩ := hbody cdv A outer s H vs Q E hr hsp
  exact ⟨t, h.nox, q⟩
theorem Fun.binds {x qual : Str} {st : Stmt} {f : Addr} {fd : FuncData} {ps : List Str} (F : Fun K x qual st f fd)
    (h : ∀ (kV doc pm : Value) (an : Option Addr) (cdv ct : Value) (us : List Value), us.length = ps.length -> bindArgs (PySem.W.fnOf x qual (defArgs st) (defBody st) (defScope st) .none kV doc pm an cdv ct) ⟨us, []⟩ = pure (ps.zip us)) : Binds K fd ps [] := by
  obtain ⟨oc, od, kV, doc, pm, an, cdv, ct, osl, rfl, lk, hcd⟩ := F.ex
  exact .all (h kV doc pm an cdv ct)
theorem fun_mk {x qual : Str} {st : Stmt} {f : Addr} {oc : Value} {od an : Option Addr} {osl : Array (Option Value)} {kV doc pm cdv ct : Value} (l : K.lookup f = some ⟨oc, od, .func (PySem.W.fnOf x qual (defArgs st) (defBody st) (defScope st) .none kV doc pm an cdv ct), osl⟩)
    (c : PySem.W.codeIn K cdv qual = true) (k : PySem.W.keepIn K (.ref f) = true) : Fun K x qual st f (PySem.W.fnOf x qual (defArgs st) (defBody st) (defScope st) .none kV doc pm an cdv ct) := ⟨⟨oc, od, kV, doc, pm, an, cdv, ct, osl, rfl, l, c⟩, k⟩
end
theorem small1000 {n : Nat} (h : n <= 1000) : n < sizeLine := Nat.lt_of_le_of_lt h (by decide)
section
variable {X : Cx}
theorem pv (i : Nat) {x : Str} {pos : Pos} (hN : X.N[i]? = some x := by rfl) (hv : Vis X.env.scope x := by first | exact Or.inl rfl | exact Or.inr (Or.inl rfl) | exact Or.inr (Or.inr rfl)) (hd : (x == ("__debug__" : Str)) = false := by decide)
    (hcd : (x == ("__classdict__" : Str)) = false := by decide) : PE X (.Name x pos) (tVar i) := pe_var hN hv hd hcd
end
theorem iteF {A B : Prop} (h : B) : if false = true then A else B := by
  rw [if_neg Bool.false_ne_true]
  exact h
theorem iteT {A B : Prop} (h : A) : if true = true then A else B := by
  rw [if_pos rfl]
  exact h
theorem iteNS {c A B : Prop} [Decidable c] (hc : c) (h : B) : if (!decide c) = true then A else B := by
  rw [decide_eq_true hc]
  exact iteF h
def Same (H H' : Hp) : Prop := ∀ b o, H b = some o -> H' b = some o
theorem Same.refl (H : Hp) : Same H H := fun _ _ h => h
theorem Same.trans {H H1 H2 : Hp} (a : Same H H1) (b : Same H1 H2) : Same H H2 := fun c o h => b c o (a c o h)
theorem Same.free {H H' : Hp} (e : Same H H') {l : Addr} (h : H' l = Option.none) : H l = Option.none := by
  cases q : H l with
  | none => rfl
  | some o =>
    rw [e l o q] at h
    cases h
theorem Same.seq {K : PySem.W.Frag} {H H' : Hp} {a : Addr} {xs : List V} (e : Same H H') (h : SqL K H a xs) : SqL K H' a xs := by
  rcases h with (h | ⟨o, h⟩) | h
  · exact .inl (.inl (e _ _ h))
  · exact .inl (.inr ⟨o, e _ _ h⟩)
  · exact .inr h
end L2
set_option maxHeartbeats 4000000
namespace L2
open PySem PySem.Spec PyProof.Rows
def Bits (n : Nat) (x : Int) : Prop := x.natAbs < 2 ^ n
theorem Bits.mono {n m : Nat} {x : Int} (h : Bits n x) (l : n <= m) : Bits m x := Nat.lt_of_lt_of_le h (Nat.pow_le_pow_right (by decide) l)
theorem Bits.log2 {n : Nat} {x : Int} (h : Bits n x) (hn : 0 < n) : x.natAbs.log2 < n := by
  by_cases z : x.natAbs = 0
  · rw [z]; exact Nat.lt_of_le_of_lt (by decide) hn
  · exact (Nat.log2_lt z).mpr h
theorem Bits.intBits {n : Nat} {x : Int} (h : Bits n x) : Builtin.Int.intBits x <= n := by
  unfold Builtin.Int.intBits
  by_cases z : (x == 0) = true
  · rw [if_pos z]; exact Nat.zero_le _
  · rw [if_neg z]
    have z' : x.natAbs ≠ 0 := by
      intro e; apply z; have : x = 0 := Int.natAbs_eq_zero.mp e; rw [this]; rfl
    exact (Nat.log2_lt z').mpr h
def CMulB (i j : Int) : Prop := ∃ n, n <= 1048576 /\ Bits n i /\ Bits n j
theorem CMulB.ok {i j : Int} (h : CMulB i j) : IntMulOk i j := by
  obtain ⟨n, hn, h1, h2⟩ := h
  exact .of_bits (Nat.le_trans h1.intBits (Nat.le_trans hn (by decide))) (Nat.le_trans h2.intBits (Nat.le_trans hn (by decide)))
section
variable {X : Cx}
theorem op_mulB : OpR X (binaryOp .Mult) (rI CMulB fun i j => .int (i * j)) := opI fun _ _ _ _ _ _ _ hc q => mul_int q hc.ok
end
section
variable {X : Cx} {pins : List (Addr × Obj)} {σ : St} {H : Hp} {s : Shared} {h' : Heap} {ch : List Addr}
theorem Inv.turnedNew {t' : Nat} {T : Addr} {o : HO} (I : Inv X pins σ H s) (k : ∀ b o, b ∉ ch -> s.heap.get? b = some o -> h'.get? b = some o) (hf : ∀ b ∈ ch, FpOk X pins H b)
    (hT : s.heap.objs.size <= T) (new : ObjOk X.prog X.w (upd H T o) h' T o) :
    Inv X pins σ (upd H T o) { s with heap := h', toks := t' } := by
  have hn : H T = none := I.hok.fresh hT
  have nT : ∀ b ob, s.heap.get? b = some ob -> b ≠ T := fun b ob e => Nat.ne_of_lt (Nat.lt_of_lt_of_le (Heap.lt_size e) hT)
  have nit : ∀ b u, H b = some u -> b ∉ ch := fun b u e z => by rw [(hf b z).1] at e; cases e
  refine I.step (g' := s.gens) (d' := s.drawn) (ch := ch) (fun b hb => ⟨(hf b hb).2.2.2.1, (hf b hb).2.1, (hf b hb).2.2.2.2.1, (hf b hb).2.2.2.2.2⟩) (fun b o _ _ hc e _ => k b o hc e) (fun b o _ _ hc e _ => ⟨o.slots, k b o hc e⟩)
    (fun b ob _ e n => by rw [upd_ne (nT b ob e)]; exact n) (fun b o hc e => ⟨o, k b o hc e⟩) (fun b xs e => by rw [upd_ne (ne_of_none e hn)]; exact e) (fun b ob u e => by rw [upd_ne (ne_of_none e hn)]; exact e)
    (fun b ps e => ⟨#[], by rw [upd_ne (ne_of_none e hn), e]; simp⟩) (fun m hm => ?_) (fun b u e => ?_) I.bare
  · obtain ⟨ob, es, ep, ho, r⟩ := hm
    exact ⟨ob, es, ep, k _ ob (fun z => (hf _ z).2.1 rfl) ho, r⟩
  · by_cases hb : b = T
    · subst hb
      rw [upd_same] at e
      cases e
      exact new
    · rw [upd_ne hb] at e
      refine (I.hok b u e).stay (fun c v hc q => k c v ?_ q) (fun c q => by rw [upd_ne (ne_of_none q hn)]; exact q) fun c xs q => by rw [upd_ne (ne_of_none q hn)]; exact q
      rcases hc with z | z
      · rw [z]; exact nit b u e
      · exact nit c _ z
end
def SqB (K : PySem.W.Frag) (b : Bool) (H : Hp) (a : Addr) (xs : List V) : Prop := bif b then SqT K H a xs else SqL K H a xs
section
variable {X : Cx} {pins : List (Addr × Obj)} {σ : St} {H : Hp} {s : Shared} {a c : Addr} {xs ys : List V} {b : Bool}
theorem Inv.awayK (I : Inv X pins σ H s) (f : FpOk X pins H c) {o : Obj} (h : X.K.lookup a = some o) : a ≠ c := by
  intro z
  have h1 := I.mod.kin a o h
  have h2 := (I.ok.bs a o h1).1
  rcases f.2.2.2.1 with q | q
  · exact I.ok.noex a o h1 (by rw [z]; exact q)
  · rw [<- z] at q; exact absurd (Nat.lt_of_lt_of_le (Heap.lt_size h2) q) (Nat.lt_irrefl _)
theorem Inv.away (I : Inv X pins σ H s) (f : FpOk X pins H c) (h : SqB X.K b H a xs) : a ≠ c := by
  have no : ∀ {u : HO}, H a = some u -> a ≠ c := fun e z => by rw [z, f.1] at e; cases e
  cases b
  · rcases (show SqL X.K H a xs from h) with (e | ⟨o, e⟩) | ⟨o, its, n, e, _⟩
    · exact no e
    · exact no e
    · exact I.awayK f e
  · rcases (show SqT X.K H a xs from h) with (e | ⟨o, e⟩) | ⟨o, its, n, e, _⟩
    · exact no e
    · exact no e
    · exact I.awayK f e
end
def Ite (K : PySem.W.Frag) (a : Addr) : It :=
  ⟨fun i H => ∃ xs x, SqL K H a xs /\ xs[i]? = some x,
   fun i H x H' => ∃ T v, x = .ref T /\ H T = none /\ H' = upd H T (.tup [.int (i : Nat), v]) /\ ∀ xs, SqL K H a xs -> xs[i]? = some v,
   fun i H => ∃ xs, SqL K H a xs /\ xs.length <= i⟩
theorem turn_enum {P : Program} {w : World} {K : PySem.W.Frag} {es : List Expr} {k : Nat} {pos : Pos} (a e it : Addr) (hei : e ≠ it) :
    Turn P w K (.Tuple es k pos) (Ite K a) [e, it] e (fun i h => (∃ old, IsEnum h e it i old) /\ h.IsListIter it a i) where
  mem := by simp
  obj := fun i h st b hb => by
    obtain ⟨⟨old, h1⟩, o, h2, c, d⟩ := st
    have hb' : b = e \/ b = it := by simpa using hb
    rcases hb' with z | z
    · subst z
      exact ⟨_, h1, fun v z => by
        have z' : Data.fields _ = Data.cell v := z
        cases z'⟩
    · subst z; exact ⟨o, h2, fun v z => by rw [d] at z; cases z⟩
  keep := fun i h h' st kk => by
    obtain ⟨⟨old, h1⟩, st2⟩ := st
    exact ⟨⟨old, kk e (by simp) _ h1⟩, st2.at fun o q => kk it (by simp) o q⟩
  item := by
    intro X hP hw hK hc i pins s σ H E I hf st hg
    subst hP hw hK
    obtain ⟨xs, x, hq, hx⟩ := hg
    obtain ⟨its, rv, p, hz⟩ := I.list hq
    obtain ⟨u, hu, ru⟩ := rv.get hx
    obtain ⟨⟨old, he⟩, hit⟩ := st
    have hne : a ≠ it := I.away (b := false) (hf it (by simp)) hq
    have hea : e ≠ a := fun z => I.away (b := false) (hf e (by simp)) hq z.symm
    have D := Draws.list (prog := X.prog) (w := X.w) (A := X.A.in1) (I.ok.hd hc) it a hne its.toArray
    have hlt : i < its.toArray.size := by
      have := (List.getElem?_eq_some_iff.mp hu).1
      simpa using this
    refine wpAny_pyNext_enum_itemD D he ⟨hit, p.isList⟩ hlt hei (by simp [hei, hea]) fun y h1 tk hy ho hst ht hsz hk => ?_
    have ey : y = u := by
      have h2 : its[i]? = some y := by simpa using hy
      rw [hu] at h2; cases h2; rfl
    subst ey
    refine ⟨_, rfl, ?_⟩
    have hTe : s.heap.objs.size ≠ e := Nat.ne_of_gt (Heap.lt_size he)
    refine wpAny_letOwnedTupleGo_enum ho fun h2 he2 hs2 => ?_
    have hs2' : Heap.SameBut e h1 h2 := hs2
    have kk : ∀ b o, b ∉ [e, it] -> s.heap.get? b = some o -> h2.get? b = some o := fun b o hb q => by
      have hb' : b ≠ e /\ b ≠ it := by simpa using hb
      exact (hs2'.2 b hb'.1).trans (hk b o hb'.1 hb'.2 q)
    have hT2 : h2.get? s.heap.objs.size = some { cls := .type "tuple", data := .seq #[.int i tk, y] } := (hs2'.2 _ hTe).trans ht
    have new : ObjOk X.prog X.w (upd H s.heap.objs.size (.tup [.int (i : Nat), x])) h2 s.heap.objs.size (.tup [.int (i : Nat), x]) :=
      ⟨by show 2 <= sizeLine; decide, [.int i tk, y], .cons ⟨tk, rfl⟩ (.cons ru .nil), ⟨_, hT2, rfl, _, rfl⟩⟩
    have hnT : H s.heap.objs.size = none := I.hok.fresh (Nat.le_refl _)
    refine ⟨.ref s.heap.objs.size, upd H s.heap.objs.size (.tup [.int (i : Nat), x]), I.turnedNew kk hf (Nat.le_refl _) new, rfl, ⟨_, x, rfl, hnT, rfl, fun ys hy' => by rw [I.list_inj hy' hq]; exact hx⟩,
      ⟨⟨_, by simpa using he2⟩, hst.1.at fun o q => (hs2'.2 it (Ne.symm hei)).trans q⟩, fun b hb => ?_⟩
    have hne2 : b ≠ s.heap.objs.size := by
      have hb' : b = e \/ b = it := by simpa using hb
      rcases hb' with z | z
      · rw [z]; exact Ne.symm hTe
      · obtain ⟨o, q, _⟩ := hit
        rw [z]; exact Nat.ne_of_lt (Heap.lt_size q)
    rw [upd_ne hne2]
    exact (hf b hb).1
  done := by
    intro X hP hw hK hc i pins s σ H E I hf st hg
    subst hP hw hK
    obtain ⟨xs, hq, hx⟩ := hg
    obtain ⟨its, rv, p, hz⟩ := I.list hq
    obtain ⟨⟨old, he⟩, hit⟩ := st
    have hl := rv.length
    -- at the end the iterator yields no more
    have hT : s.TypeIs (.ref e) "enumerate" := ⟨_, he, rfl⟩
    unfold pyNext
    refine wpAny_bind (wpAny_attempt (wpAny_callSpecial?_slot (name := Str.ofString "__next__") hT F.slot_enumerate_next
      (wpAny_call_entry F.slot_enumerate_next hT F.entry_enumerate_next ?_ (F.args_enumerate_next_1 _))))
    show wpAny _ _ (field (.ref e) 2 >>= _) _ _ _
    refine wpAny_bind (wpAny_field he rfl (x := .ref it) rfl ?_)
    refine wpAny_bind (wpAny_nextOf_list_end (A := X.A.in1) (I.ok.hd hc) hit p.isList (by simp; omega) fun h1 ex hx1 hx2 => ?_)
    obtain ⟨o, ho, hcc⟩ := hx2
    refine wpAny_bind (wpAny_isInstance (T := "StopIteration") (b := true) ⟨o, ho, hcc⟩ isSubtype_stop ?_)
    refine wpAny_pure ⟨rfl, ?_⟩
    obtain ⟨f0, f1, f2, f3, f4, f5⟩ := hf it (by simp)
    exact I.turned (t' := s.toks) (fun b o hb q => hx1 b o hb q) f0 f1 f3 f4 f5
  self := fun _ _ _ _ _ st h => by
    obtain ⟨⟨old, he⟩, _⟩ := st
    exact wpAny_pyIter_enum he h
section
variable {X : Cx} {es : List Expr} {k : Nat} {tpos : Pos}
def iEnum (K : PySem.W.Frag) (ta : TA) : TI := fun σ H R => ta σ H fun vs H1 => ∃ a, vs = [.ref a] /\ (∃ xs, SqL K H1 a xs) /\ R (Ite K a) H1
theorem pi_enum {e : Expr} {ta : TA} {p pos : Pos} (hg : Gl X "enumerate") (hm : X.mg "enumerate" = none) (ha : PA X [e] ta) (hs : starEach [e] X.env = [(false, eval e X.env)] := by rfl) :
    PI X (.Tuple es k tpos) (.Call (.Name "enumerate" p) [e] [] pos) (iEnum X.K ta) := by
  intro pins s σ H R I h
  refine Call_ (ld_blt I hg hm (u := .type "enumerate") (by rfl) (PyProof.Rows.callWith_type1 (thn (ha pos pins s σ H _ I h) fun us s1 ⟨vs, H1, I1, r1, q1⟩ => ?_) hs rfl))
  obtain ⟨a, rfl, ⟨xs, hq⟩, q⟩ := q1
  obtain ⟨u, rfl, r⟩ := vals1 r1
  obtain rfl : u = Value.ref a := r
  obtain ⟨its, rv, p, hz⟩ := I1.list hq
  refine call_enumerate_list p.isList fun h1 h2 h3 h4 h5 => ?_
  refine wpAny_pyIter_enum h2 ?_
  have I2 : Inv X pins σ H1 { s1 with heap := h1 } := I1.kept (t' := s1.toks) h5
  refine ⟨s1.heap.objs.size + 1, [s1.heap.objs.size + 1, s1.heap.objs.size], _, _, H1, rfl, I2, turn_enum a _ _ (Nat.succ_ne_self _), ⟨⟨_, h2⟩, h3⟩, fun b hb => ?_, q⟩
  have hb' : b = s1.heap.objs.size + 1 \/ b = s1.heap.objs.size := by simpa using hb
  have hle : s1.heap.objs.size <= b := by rcases hb' with z | z <;> rw [z] <;> first | exact Nat.le_add_right _ _ | exact Nat.le_refl _
  exact I1.fpOk hle (I1.hok.fresh hle)
end
theorem for_enum {K : PySem.W.Frag} {a : Addr} {xs : List V} {g : TG} {tb : TS} {D : Ends} {σ : St} {H : Hp} (Pv : Nat -> St -> Hp -> Prop) (h0 : Pv 0 σ H) (hl : ∀ i σ H, i <= xs.length -> Pv i σ H -> SqL K H a xs)
    (hs : ∀ i x T σ H, xs[i]? = some x -> H T = none -> Pv i σ H -> g (.ref T) σ (upd H T (.tup [.int (i : Nat), x])) fun σ2 H2 => tb { D with nx := Pv (i + 1), ct := Pv (i + 1), bk := D.nx } σ2 H2) (hd : ∀ σ H, Pv xs.length σ H -> D.nx σ H) :
    ∃ W : Nat -> Nat -> St -> Hp -> Prop, (∃ m, W 0 m σ H) /\ ∀ i m σ H, W i m σ H ->
      ((Ite K a).stop i H /\ D.nx σ H) \/ ((Ite K a).go i H /\ ∃ N : St -> Hp -> Prop, (∀ σ' H', N σ' H' -> ∃ m', m' < m /\ W (i + 1) m' σ' H') /\ ∀ x H', (Ite K a).yld i H x H' -> g x σ H' fun σ2 H2 => tb { D with nx := N, ct := N, bk := D.nx } σ2 H2) := by
  refine ⟨fun i m σ H => m = xs.length - i /\ i <= xs.length /\ Pv i σ H, ⟨xs.length, by simp, Nat.zero_le _, h0⟩, ?_⟩
  rintro i m σ H ⟨rfl, hi, p⟩
  have q := hl i σ H hi p
  by_cases hlt : i < xs.length
  · refine .inr ⟨⟨xs, xs[i], q, by simp [hlt]⟩, Pv (i + 1), fun σ' H' p' => ⟨xs.length - (i + 1), by omega, rfl, hlt, p'⟩, fun x H' y => ?_⟩
    obtain ⟨T, v, e1, e2, e3, y⟩ := y
    subst e1 e3
    exact hs i v T σ _ (y xs q) e2 p
  · have e : i = xs.length := by omega
    subst e
    exact .inl ⟨⟨xs, q, Nat.le_refl _⟩, hd σ H p⟩
end L2
namespace L2
open PySem PySem.Spec PyProof.Rows
def closes (env : Env) : List (Str × NameKind) -> List (Str × Addr) -> List (Str × Addr)
  | [], cs => cs
  | (n, k) :: r, cs => closes env r (if k == .free then (match env.cells.lookup n with | some c => (n, c) :: cs | none => cs) else cs)
theorem closes_mem {env : Env} : ∀ {ns : List (Str × NameKind)} {cs : List (Str × Addr)} {x : Str} {c : Addr}, (∀ y d, (y, d) ∈ cs -> env.cells.lookup y = some d) -> (x, c) ∈ closes env ns cs -> env.cells.lookup x = some c
  | [], _, _, _, h, m => h _ _ m
  | (n, k) :: r, cs, x, c, h, m => by
    unfold closes at m
    refine closes_mem (ns := r) (fun y d hm => ?_) m
    by_cases hk : (k == NameKind.free) = true
    · rw [if_pos hk] at hm
      cases e : env.cells.lookup n with
      | none => rw [e] at hm; exact h _ _ hm
      | some a =>
        rw [e] at hm
        rcases List.mem_cons.mp hm with q | q
        · cases q; exact e
        · exact h _ _ q
    · rw [if_neg hk] at hm; exact h _ _ hm
theorem closes_has {env : Env} : ∀ {ns : List (Str × NameKind)} {cs : List (Str × Addr)} {x : Str} {c : Addr}, (x, NameKind.free) ∈ ns \/ (x, c) ∈ cs -> env.cells.lookup x = some c -> (x, c) ∈ closes env ns cs
  | [], _, _, _, h, _ => h.elim (fun z => absurd z (by simp)) id
  | (n, k) :: r, cs, x, c, h, e => by
    unfold closes
    refine closes_has (ns := r) ?_ e
    rcases h with h | h
    · rcases List.mem_cons.mp h with q | q
      · cases q
        right
        rw [if_pos (by rfl), e]
        exact List.mem_cons_self
      · exact .inl q
    · right
      by_cases hk : (k == NameKind.free) = true
      · rw [if_pos hk]
        cases env.cells.lookup n with
        | none => exact h
        | some a => exact List.mem_cons_of_mem _ h
      · rw [if_neg hk]; exact h
theorem closureFor_closes {scope : Scope} {env : Env} (h : ∀ x ∈ scope.names, x.2 = .free -> ∃ c, env.cells.lookup x.1 = some c) : closureFor scope env = pure (closes env scope.names []) := by
  have all : ∀ (ns : List (Str × NameKind)) (cs : List (Str × Addr)), (∀ x ∈ ns, x.2 = .free -> ∃ c, env.cells.lookup x.1 = some c) ->
      (forIn ns cs fun (x : Str × NameKind) (r : List (Str × Addr)) => (if x.2 == .free then do let c <- cellOf env x.1; pure (ForInStep.yield ((x.1, c) :: r)) else pure (ForInStep.yield r) : Sem _)) = pure (closes env ns cs) := by
    intro ns
    induction ns with
    | nil => intro cs _; rfl
    | cons x r ih =>
      obtain ⟨n, k⟩ := x
      intro cs hx
      rw [List.forIn_cons]
      unfold closes
      by_cases hk : (k == NameKind.free) = true
      · have hk' : k = .free := by simpa using hk
        obtain ⟨c, e⟩ := hx (n, k) List.mem_cons_self hk'
        have e' : env.cells.lookup n = some c := e
        have e2 : cellOf env n = pure c := by unfold cellOf; rw [e']
        simp only [hk, if_true, e2, pure_bind, e']
        exact ih _ fun y hy => hx y (List.mem_cons_of_mem _ hy)
      · simp only [hk, Bool.false_eq_true, if_false, pure_bind]
        exact ih _ fun y hy => hx y (List.mem_cons_of_mem _ hy)
  have := all scope.names [] h
  simp only [closureFor]
  first
    | exact (bind_congr fun _ => rfl).trans (by rw [this, pure_bind])
    | (show (forIn scope.names [] _ >>= _) = _; rw [show (forIn scope.names ([] : List (Str × Addr)) _) = _ from this]; rfl)
    | (rw [this]; rfl)
    | exact this
theorem lookup_mem {x : Str} {c : Addr} : ∀ {cs : List (Str × Addr)}, cs.lookup x = some c -> (x, c) ∈ cs := fun h => PySem.mem_of_lookup h
theorem lookup_of_mem {x : Str} {c : Addr} : ∀ {cs : List (Str × Addr)}, (x, c) ∈ cs -> (∀ d, (x, d) ∈ cs -> d = c) -> cs.lookup x = some c
  | [], h, _ => absurd h (by simp)
  | (y, d) :: r, h, u => by
    rw [List.lookup_cons]
    cases e : x == y with
    | true =>
      have e' : x = y := by simpa using e
      subst e'
      simp only
      rw [u d List.mem_cons_self]
    | false =>
      simp only
      refine lookup_of_mem ?_ fun d' hd => u d' (List.mem_cons_of_mem _ hd)
      rcases List.mem_cons.mp h with q | q
      · cases q; simp at e
      · exact q
def blk (X : Cx) (scope : Scope) (NB : List Str) (C : Addr) (s : Shared) (H : Hp) (fp : List Addr) : Cx where
  prog := X.prog
  w := X.w
  K := X.K
  mg := X.mg
  base := X.base
  A := X.A
  N := NB
  s₀ := s
  H₀ := H
  env := compEnvC scope (closes X.env scope.names []) C X.env
  outer := X.stack
  stack := X.stack
  ex := fp
  fn := fun _ => false
  calm := X.calm
  pn := []
  xe := fun _ _ => False
def carry (fr : List (Option Nat)) (σ : St) : St := fr.map fun o => match o with | some j => (σ[j]?).getD none | none => none
def relS (scope sc : Scope) : Scope :=
  { scope with names := scope.names.map fun (n, k) => if (k == .free && sc.kind == .function && sc.names.lookup n == some .cell) then (n, .cell) else (n, k) }
structure BlkOk (sc : Scope) (N : List Str) (scope : Scope) (NB : List Str) (fr : List (Option Nat)) : Prop where
  kind : scope.kind = .function
  cell : ∀ y ∈ scope.names, y.2 ≠ .cell
  names : ∀ x ∈ scope.names, x.2 = .local -> scope.names.lookup x.1 = some .local
  free : ∀ x ∈ scope.names, x.2 = .free -> sc.names.lookup x.1 = some .cell \/ sc.names.lookup x.1 = some .free
  len : NB.length = fr.length
  bind : ∀ p ∈ fr.zip NB, ∀ j ∈ p.1, N[j]? = some p.2 /\ (p.2, NameKind.free) ∈ scope.names /\ ((relS scope sc).names.lookup p.2 = some .cell \/ (relS scope sc).names.lookup p.2 = some .free)
instance {sc : Scope} {N : List Str} {scope : Scope} {NB : List Str} {fr : List (Option Nat)} : Decidable (BlkOk sc N scope NB fr) :=
  decidable_of_iff ((scope.kind = .function /\ ∀ y ∈ scope.names, y.2 ≠ .cell) /\ ((∀ x ∈ scope.names, x.2 = .local -> scope.names.lookup x.1 = some .local) /\ ∀ x ∈ scope.names, x.2 = .free -> sc.names.lookup x.1 = some .cell \/ sc.names.lookup x.1 = some .free) /\
    NB.length = fr.length /\ ∀ p ∈ fr.zip NB, ∀ j ∈ p.1, N[j]? = some p.2 /\ (p.2, NameKind.free) ∈ scope.names /\ ((relS scope sc).names.lookup p.2 = some .cell \/ (relS scope sc).names.lookup p.2 = some .free))
    ⟨fun ⟨⟨a, b⟩, ⟨c, d⟩, e, f⟩ => ⟨a, b, c, d, e, f⟩, fun ⟨a, b, c, d, e, f⟩ => ⟨⟨a, b⟩, ⟨c, d⟩, e, f⟩⟩
theorem lookup_relabel_free {env : Env} {x : Str} : ∀ {names : List (Str × NameKind)} {k : NameKind}, (names.map fun (n, k) => if (k == NameKind.free && env.scope.kind == .function && env.kindOf n == some .cell) then (n, NameKind.cell) else (n, k)).lookup x = some k ->
    (k = .cell \/ k = .free) -> (∀ y ∈ names, y.2 ≠ .cell) -> (x, NameKind.free) ∈ names
  | [], k, h, _, _ => by simp at h
  | (n, k0) :: r, k, h, hk, hc => by
    have hc' : ∀ y ∈ r, y.2 ≠ .cell := fun y hy => hc y (List.mem_cons_of_mem _ hy)
    by_cases e : (x == n) = true
    · have e' : x = n := by simpa using e
      subst e'
      by_cases hc0 : (k0 == NameKind.free && env.scope.kind == .function && env.kindOf x == some .cell) = true
      · have : k0 = .free := by
          rw [Bool.and_eq_true, Bool.and_eq_true] at hc0
          simpa using hc0.1.1
        rw [this]; exact List.mem_cons_self
      · rw [List.map_cons] at h
        simp only [hc0, if_false, Bool.false_eq_true] at h
        rw [List.lookup_cons, e] at h
        have h' : k0 = k := by simpa using h
        subst h'
        rcases hk with z | z
        · exact absurd z (hc (x, k0) List.mem_cons_self)
        · rw [z]; exact List.mem_cons_self
    · have e' : (x == n) = false := by simpa using e
      rw [List.map_cons] at h
      refine List.mem_cons_of_mem _ (lookup_relabel_free (env := env) (names := r) (k := k) ?_ hk hc')
      by_cases hc0 : (k0 == NameKind.free && env.scope.kind == .function && env.kindOf n == some .cell) = true
      · simp only [hc0, if_true] at h
        rw [List.lookup_cons, e'] at h
        exact h
      · simp only [hc0, if_false, Bool.false_eq_true] at h
        rw [List.lookup_cons, e'] at h
        exact h
section
variable {X : Cx} {pins : List (Addr × Obj)} {σ : St} {H : Hp} {s : Shared} {scope : Scope} {NB : List Str} {fr : List (Option Nat)} {fp : List Addr}
theorem BlkOk.closed (B : BlkOk X.env.scope X.N scope NB fr) (I : Inv X pins σ H s) : ∀ x ∈ scope.names, x.2 = .free -> ∃ c, X.env.cells.lookup x.1 = some c := fun x hx hf => I.ok.has x.1 (B.free x hx hf)
theorem BlkOk.look (B : BlkOk X.env.scope X.N scope NB fr) (I : Inv X pins σ H s) {x : Str} (hx : (x, NameKind.free) ∈ scope.names) : ∃ c, X.env.cells.lookup x = some c /\ (closes X.env scope.names []).lookup x = some c := by
  obtain ⟨c, e⟩ := B.closed I _ hx rfl
  refine ⟨c, e, lookup_of_mem (closes_has (.inl hx) e) fun d hd => ?_⟩
  have := closes_mem (fun _ _ z => absurd z (by simp)) hd
  rw [e] at this
  exact (Option.some.inj this).symm
theorem blk_cells {x : Str} {c : Addr} (h : (closes X.env scope.names []).lookup x = some c) : X.env.cells.lookup x = some c := closes_mem (fun _ _ z => absurd z (by simp)) (lookup_mem h)
theorem blk_start {h1 : Heap} {tk : Nat} {C : Addr} {m : Str -> Option Value} (B : BlkOk X.env.scope X.N scope NB fr) (I : Inv X pins σ H s) (hf : ∀ b ∈ fp, FpOk X pins H b /\ b < s.heap.objs.size) (hC : s.heap.objs.size <= C)
    (k : ∀ b o, s.heap.get? b = some o -> h1.get? b = some o) (hn : h1.Ns C m) :
    Inv (blk X scope NB C s H fp) [] (carry fr σ) H { s with heap := h1, toks := tk } := by
  have hk : (relabel scope X.env).kind = .function := B.kind
  refine ⟨⟨I.ok.mod, hk, I.ok.glob, I.ok.blt, hC, fun x y c e1 e2 => I.ok.inj x y c (blk_cells e1) (blk_cells e2), fun x hx => ?_, fun x c hfn _ => absurd hfn (by simp [blk]), I.ok.hd, I.ok.frames, .inl rfl, fun b hb => ⟨?_, fun x c e => ?_⟩, I.bs, Nat.le_trans I.ok.bsz I.sz, fun b o e hb => ?_, fun b hb => ?_, I.stack, I.stkFree⟩,
    rfl, I.bare, Un.kept k, ⟨m, hn, fun i x v e1 e2 e3 => ?_⟩, fun x c e => ?_, I.hok.fresh hC, fun x c e => I.freeC x c (blk_cells e), fun p hp => absurd (show p ∈ ([] : List (Addr × Obj)) from hp) (by simp), I.hok.kept k, ?_⟩
  · have hx' : (relabel scope X.env).names.lookup x = some .cell \/ (relabel scope X.env).names.lookup x = some .free := hx
    have hm : (x, NameKind.free) ∈ scope.names := by
      rcases hx' with z | z
      · exact lookup_relabel_free z (.inl rfl) B.cell
      · exact lookup_relabel_free z (.inr rfl) B.cell
    obtain ⟨c, _, e⟩ := B.look I hm
    exact ⟨c, e⟩
  · exact Nat.ne_of_lt (Nat.lt_of_lt_of_le (hf b hb).2 hC)
  · exact (hf b hb).1.2.2.2.2.1 x c (blk_cells e)
  · rcases (hf b hb).1.2.2.2.1 with z | z
    · exact I.ok.noex b o e z
    · exact absurd (Nat.lt_of_lt_of_le (Heap.lt_size (I.ok.bs b o e).1) z) (Nat.lt_irrefl _)
  · intro z
    rcases List.mem_cons.mp (I.stkSub b z) with q | q
    · exact (hf b hb).1.2.1 q
    · exact (hf b hb).1.2.2.1 q
  · -- a name that is closed over
    obtain ⟨mX, hnX, hlX⟩ := I.loc
    have e2' : ∃ j, fr[i]? = some (some j) /\ σ[j]? = some (some v) := by
      unfold carry at e2
      rw [List.getElem?_map] at e2
      cases q : fr[i]? with
      | none => rw [q] at e2; cases e2
      | some o =>
        rw [q] at e2
        cases o with
        | none => simp at e2
        | some j =>
          refine ⟨j, rfl, ?_⟩
          have e2 : (σ[j]?).getD none = some v := by simpa using e2
          cases q2 : σ[j]? with
          | none => rw [q2] at e2; cases e2
          | some w => rw [q2] at e2; simp at e2; rw [e2]
    obtain ⟨j, hj, hs⟩ := e2'
    have hz : (some j, x) ∈ fr.zip NB := List.mem_of_getElem? (i := i) (by rw [List.getElem?_zip_eq_some]; exact ⟨hj, e1⟩)
    obtain ⟨hy2, hy3, kd'⟩ := B.bind _ hz j rfl
    have vis : Vis X.env.scope x := by
      rcases B.free _ hy3 rfl with z | z
      · exact .inr (.inl z)
      · exact .inr (.inr z)
    obtain ⟨u, ru, lk⟩ := hlX j x v hy2 hs vis
    refine ⟨u, ru, ?_⟩
    obtain ⟨c, ec1, ec2⟩ := B.look I hy3
    have kd : (compEnvC scope (closes X.env scope.names []) C X.env).kindOf x = some .cell \/ (compEnvC scope (closes X.env scope.names []) C X.env).kindOf x = some .free := kd'
    refine .inr ⟨kd, c, ec2, ?_⟩
    rcases lk with ⟨q1, q2⟩ | ⟨_, c', q2, q3⟩
    · exfalso
      rcases B.free _ hy3 rfl with t | t
      · rw [show X.env.kindOf x = some .cell from t] at q1; cases q1
      · rw [show X.env.kindOf x = some .free from t] at q1; cases q1
    · rw [ec1] at q2
      cases q2
      obtain ⟨o, ho, hd⟩ := q3
      exact ⟨o, k _ _ ho, hd⟩
  · obtain ⟨v, o, ho, hd⟩ := I.cell x c (blk_cells e)
    exact ⟨v, o, k _ _ ho, hd⟩
  · unfold carry
    rw [List.length_map]
    exact B.len.symm
end
section
variable {prog : Program} {w : World} {A : Around} {E : Value -> Shared -> Prop} {s : Shared}
theorem comp_turns {elt tg iter : Expr} {ifs : List Expr} {scope : Scope} {pos : Pos} {it acc : Value} {env : Env} {R : Result -> Shared -> Prop} (J : Nat -> Shared -> Prop)
    (turn : ∀ n s, J n s -> wpAny (model prog w) A (pyNext it) (fun r s1 => match r with
      | none => R (.ok .next) s1
      | some v => wpAny (model prog w) A (letOwnedTupleGo tg it v) (fun _ s2 => wpAny (model prog w) A (assign tg env v) (fun _ s3 =>
          wpAny (model prog w) A (forIn ifs true fun c r => if r = true then do let ok <- isTrue c env (eval c env); pure (ForInStep.yield ok) else pure (ForInStep.yield r)) (fun ok s4 =>
            if ok = true then wpAny (model prog w) A (eval elt env) (fun x s5 => wpAny (model prog w) A (call (.builtin "list.append") [acc, x]) (fun _ s6 => ∃ m, m < n /\ J m s6) (fun _ _ => False) s5) (fun _ _ => False) s4
            else ∃ m, m < n /\ J m s4) (fun _ _ => False) s3) (fun _ _ => False) s2) (fun _ _ => False) s1) (fun _ _ => False) s)
    (n : Nat) (h : J n s) : codeAny (model prog w) A (.compLoop (.ListComp elt [⟨tg, iter, ifs, 0⟩] scope pos) 0 it acc env) R s := by
  refine codeAny_loop rfl J (fun n s hJ => ?_) n h
  show wpAny _ A ((compTurn (.ListComp elt [⟨tg, iter, ifs, 0⟩] scope pos) 0 it acc env).onRaise _) _ _ s
  refine wpAny_noted ?_
  rw [compTurn_list]
  refine wpAny_bind (wpAny_standAt (wpAny_bind (wpAny_mono (turn n s hJ) (fun r s1 h1 => ?_) fun _ _ z => z.elim)))
  cases r with
  | none => exact wpAny_pure h1
  | some v =>
    refine wpAny_bind (wpAny_mono h1 (fun _ s2 h2 => wpAny_bind (wpAny_mono h2 (fun _ s3 h3 => wpAny_bind (wpAny_mono h3 (fun ok s4 h4 => ?_) fun _ _ z => z.elim)) fun _ _ z => z.elim)) fun _ _ z => z.elim)
    cases ok with
    | false => exact wpAny_pure ⟨rfl, h4⟩
    | true => exact wpAny_bind (wpAny_bind (wpAny_mono h4 (fun x s5 h5 => wpAny_bind (wpAny_mono h5 (fun _ s6 h6 => wpAny_pure (wpAny_pure ⟨rfl, h6⟩)) fun _ _ z => z.elim)) fun _ _ z => z.elim))
end
def Wk (σ σ2 : St) : Prop := σ2.length = σ.length /\ ∀ (i : Nat) v, σ[i]? = some (some v) -> σ2[i]? = some (some v)
def tTurns (fr : List (Option Nat)) (g : TG) (tc : TT) (te : TE) (D : Addr) (J : It) (σ : St) (H1 : Hp) (Q : VK) : Prop :=
  ∃ W : Nat -> Nat -> List V -> Hp -> Prop, (∃ m, W 0 m [] (upd H1 D (.lst []))) /\ ∀ i m ys H, W i m ys H -> H D = some (.lst ys) /\
    ((J.stop i H /\ Q (.ref D) H) \/ (J.go i H /\ ys.length < sizeLine /\ ∃ N : List V -> Hp -> Prop, (∀ ys' H', N ys' H' -> ∃ m', m' < m /\ W (i + 1) m' ys' H') /\
      ∀ x H', J.yld i H x H' -> g x (carry fr σ) H' fun σ2 H2 => Wk (carry fr σ) σ2 /\ tc σ2 H2 fun b H3 => if b = true then te σ2 H3 fun y H4 => H4 D = some (.lst ys) /\ N (ys ++ [y]) (upd H4 D (.lst (ys ++ [y]))) else N ys H3))
def tComp (fr : List (Option Nat)) (wi : TI) (g : TG) (tc : TT) (te : TE) : TE := fun σ H Q => wi σ H fun J H1 => ∀ D, H1 D = none -> tTurns fr g tc te D J σ H1 Q
def tYes : TT := fun _ H Q => Q true H
inductive PIfs (Y : Cx) : List Expr -> TT -> Prop where
  | nil : PIfs Y [] tYes
  | one {c : Expr} {t : TT} : PT Y c t -> PIfs Y [c] t
section
variable {X : Cx} {scope : Scope} {NB : List Str} {fr : List (Option Nat)} {elt tg iter : Expr} {ifs : List Expr} {pos : Pos} {wi : TI} {g : TG} {tc : TT} {te : TE}
theorem Inv.lost {pins : List (Addr × Obj)} {σ : St} {H : Hp} {s : Shared} {h' : Heap} {C : Addr} (I : Inv X pins σ H s) (hs : Heap.SameBut C s.heap h') (f : FpOk X pins H C) : Inv X pins σ H { s with heap := h' } :=
  I.turned (t' := s.toks) (fun b o hb e => (hs.2 b hb).trans e) f.1 f.2.1 f.2.2.2.1 f.2.2.2.2.1 f.2.2.2.2.2
theorem blk_run (hcalm : X.calm = true) (B : BlkOk X.env.scope X.N scope NB fr) (hg : ∀ C s H fp, PG (blk X scope NB C s H fp) tg g) (hif : ∀ C s H fp, PIfs (blk X scope NB C s H fp) ifs tc) (he : ∀ C s H fp, PE (blk X scope NB C s H fp) elt te)
    {pins : List (Addr × Obj)} {σ : St} {Q : VK} {E : Value -> Shared -> Prop} {itv : Value} {s2 : Shared} (h2 : PIE X pins σ tg (fun J H1 => ∀ D, H1 D = none -> tTurns fr g tc te D J σ H1 Q) itv s2)
    {RR : Value -> Addr -> Result -> Shared -> Prop}
    (hRR : ∀ D C H' s', Inv X pins σ H' s' -> FpOk X pins H' C -> (∃ m, s'.heap.Ns C m) -> Q (.ref D) H' -> RR (.ref D) C (.ok .next) s') :
    wpAny (model X.prog X.w) X.A (newList []) (fun acc s3 => wpAny (model X.prog X.w) X.A (newFunctionEnv scope X.env.globals (closes X.env scope.names []) [] X.env.qual none .none (some X.env)) (fun cenv s4 =>
      codeAny (model X.prog X.w) X.A (.compStart (.ListComp elt [⟨tg, iter, ifs, 0⟩] scope pos) 0 itv acc { cenv with scope := relabel scope X.env }) (RR acc cenv.locals) s4) E s3) E s2 := by
  obtain ⟨it, fp, tn, J, H2, rfl, I2, T, st2, f2, q2⟩ := h2
  refine wpAny_newObj_type ?_
  have hD : H2 s2.heap.objs.size = none := I2.hok.fresh (Nat.le_refl _)
  have I3 : Inv X pins σ (upd H2 s2.heap.objs.size (.lst [])) { s2 with heap := s2.heap.push { cls := .type "list", data := .seq ([] : List Value).toArray } } :=
    I2.laid (t' := s2.toks) (fun b u e => Heap.get?_push_of_some _ e) (Nat.le_refl _) ⟨by show 0 <= sizeLine; decide, [], 0, .nil, Heap.get?_push_size _ rfl⟩
  obtain ⟨W, ⟨m0, w0⟩, turn⟩ := q2 s2.heap.objs.size hD
  generalize hDe : s2.heap.objs.size = D at *
  generalize hH3 : upd H2 D (.lst []) = H3 at *
  generalize hg3 : s2.heap.push { cls := .type "list", data := .seq ([] : List Value).toArray } = g3 at *
  have up3 : ∀ b o, s2.heap.get? b = some o -> g3.get? b = some o := fun b o e => by rw [<- hg3]; exact Heap.get?_push_of_some _ e
  have sz3 : g3.objs.size = D + 1 := by rw [<- hg3, Heap.size_push, hDe]
  have st3 : tn 0 g3 := T.keep _ _ _ st2 fun b _ o e => up3 b o e
  have fl : ∀ b ∈ fp, b < g3.objs.size := fun b hb => by
    obtain ⟨o, e, _⟩ := T.obj _ _ st3 b hb
    exact Heap.lt_size e
  have nD : ∀ b ∈ fp, b ≠ D := fun b hb => by
    obtain ⟨o, e, _⟩ := T.obj _ _ st2 b hb
    have := Heap.lt_size e
    rw [hDe] at this
    exact Nat.ne_of_lt this
  have f3 : ∀ b ∈ fp, FpOk X pins H3 b := fun b hb => ⟨by rw [<- hH3, upd_ne (nD b hb)]; exact (f2 b hb).1, (f2 b hb).2⟩
  refine wpAny_newFunctionEnv B.cell (by intro y hy; simp at hy) (fun h1 hn1 hs1 => ?_) B.kind
  dsimp only at hn1 hs1 ⊢
  have up4 : ∀ b o, g3.get? b = some o -> h1.get? b = some o := fun b o e => hs1.extBut b o (Nat.ne_of_lt (Heap.lt_size e)) (Heap.get?_push_of_some _ e)
  have st4 : tn 0 h1 := T.keep _ _ _ st3 fun b _ o e => up4 b o e
  have J0 : Inv (blk X scope NB g3.objs.size { s2 with heap := g3 } H3 fp) [] (carry fr σ) H3 { s2 with heap := h1, toks := s2.toks + ([] : List (Str × Value)).length } :=
    blk_start (s := { s2 with heap := g3 }) (fp := fp) B I3 (fun b hb => ⟨f3 b hb, fl b hb⟩) (Nat.le_refl _) up4 hn1
  have fpY : ∀ {H' : Hp}, (∀ b ∈ fp, H' b = none) -> ∀ b ∈ fp, FpOk (blk X scope NB g3.objs.size { s2 with heap := g3 } H3 fp) [] H' b := fun hn b hb =>
    ⟨hn b hb, Nat.ne_of_lt (fl b hb), J0.ok.exfs b hb, .inl hb, fun x c e => (f3 b hb).2.2.2.2.1 x c (blk_cells e), fun p hp => absurd (show p ∈ ([] : List (Addr × Obj)) from hp) (by simp)⟩
  have back : ∀ {σ' : St} {H' : Hp} {s' : Shared}, Inv (blk X scope NB g3.objs.size { s2 with heap := g3 } H3 fp) [] σ' H' s' -> Inv X pins σ H' s' /\ FpOk X pins H' g3.objs.size /\ ∃ m, s'.heap.Ns g3.objs.size m := fun {σ' H' s'} K => by
    refine ⟨I3.call' (ch := fp) K.os K.base K.hok K.bare fun b hb => ⟨(f3 b hb).2.2.2.1, (f3 b hb).2.1, (f3 b hb).2.2.2.2.1, (f3 b hb).2.2.2.2.2⟩, ?_, ?_⟩
    · exact I3.fpOk (Nat.le_refl _) K.free
    · obtain ⟨m, hm, _⟩ := K.loc
      exact ⟨m, hm⟩
  have loop : ∀ s3 : Shared, s3 = { s2 with heap := h1, toks := s2.toks + ([] : List (Str × Value)).length } ->
      codeAny (model X.prog X.w) X.A (.compLoop (.ListComp elt [⟨tg, iter, ifs, 0⟩] scope pos) 0 (.ref it) (.ref D) (compEnvC scope (closes X.env scope.names []) g3.objs.size X.env)) (RR (.ref D) g3.objs.size) s3 := by
    rintro s3 rfl
    refine comp_turns (fun n s' => ∃ i ys H', Inv (blk X scope NB g3.objs.size { s2 with heap := g3 } H3 fp) [] (carry fr σ) H' s' /\ tn i s'.heap /\ (∀ b ∈ fp, H' b = none) /\ W i n ys H') ?_ m0 ⟨0, [], H3, J0, st4, fun b hb => (f3 b hb).1, w0⟩
    rintro n s3 ⟨i, ys, H4, J4, st, fr4, w4⟩
    obtain ⟨hl4, alt⟩ := turn i n ys H4 w4
    rcases alt with ⟨stop, qn⟩ | ⟨go, hlen, N, hN, step⟩
    · refine thn (T.done (blk X scope NB g3.objs.size { s2 with heap := g3 } H3 fp) rfl rfl rfl hcalm i [] s3 (carry fr σ) H4 (fun _ _ => False) J4 (fpY fr4) st stop) fun r s5 ⟨hr, J5⟩ => ?_
      subst hr
      obtain ⟨K1, K2, K3⟩ := back J5
      exact hRR D g3.objs.size H4 s5 K1 K2 K3 qn
    · refine thn (T.item (blk X scope NB g3.objs.size { s2 with heap := g3 } H3 fp) rfl rfl rfl hcalm i [] s3 (carry fr σ) H4 (fun _ _ => False) J4 (fpY fr4) st go) fun r s5 ⟨u, hr, h5⟩ => ?_
      subst hr
      refine thn h5 fun _ s6 ⟨x, H6, J6, r6, y6, st6, fr6⟩ => ?_
      have J6' := J6.pinned (fpY fr6) (T.obj _ _ st6)
      refine thn (hg _ _ _ _ _ s6 (carry fr σ) H6 x u _ J6' r6 (step x H6 y6)) fun _ s7 ⟨σ7, H7, J7, wk, q7⟩ => ?_
      have again : ∀ {ys' : List V} {H8 : Hp} {s8 : Shared}, Inv (blk X scope NB g3.objs.size { s2 with heap := g3 } H3 fp) ([] ++ pinsAt fp s6.heap) σ7 H8 s8 -> N ys' H8 ->
          ∃ m, m < n /\ ∃ i ys H', Inv (blk X scope NB g3.objs.size { s2 with heap := g3 } H3 fp) [] (carry fr σ) H' s8 /\ tn i s8.heap /\ (∀ b ∈ fp, H' b = none) /\ W i m ys H' := fun {ys' H8 s8} J8 n8 => by
        obtain ⟨m', hm, w8⟩ := hN ys' H8 n8
        refine ⟨m', hm, i + 1, ys', H8, J8.unpinned.weak wk.1.symm wk.2, T.keep _ _ _ st6 fun b hb o e => (J8.pin (b, o) (List.mem_append_right _ (List.mem_append_right _ (mem_pinsAt hb e)))).1, fun b hb => ?_, w8⟩
        obtain ⟨o, e, d⟩ := T.obj _ _ st6 b hb
        exact (J8.pin (b, o) (List.mem_append_right _ (List.mem_append_right _ (mem_pinsAt hb e)))).2.1
      have tests : wpAny (model X.prog X.w) X.A (forIn ifs true fun c r => if r = true then do let ok <- isTrue c (compEnvC scope (closes X.env scope.names []) g3.objs.size X.env) (eval c (compEnvC scope (closes X.env scope.names []) g3.objs.size X.env)); pure (ForInStep.yield ok) else pure (ForInStep.yield r))
          (TP (blk X scope NB g3.objs.size { s2 with heap := g3 } H3 fp) ([] ++ pinsAt fp s6.heap) σ7 fun b H3' => if b = true then te σ7 H3' fun y H4' => H4' D = some (.lst ys) /\ N (ys ++ [y]) (upd H4' D (.lst (ys ++ [y]))) else N ys H3') (fun _ _ => False) s7 := by
        generalize hif g3.objs.size { s2 with heap := g3 } H3 fp = PF
        cases PF with
        | nil => exact wpAny_tests_nil ⟨H7, J7, q7⟩
        | one hpt => exact wpAny_tests_one (hpt _ s7 σ7 H7 _ J7 q7)
      refine thn tests fun ok s8 ⟨H8, J8, q8⟩ => ?_
      cases ok with
      | false => exact again J8 q8
      | true =>
        rw [if_pos rfl]
        refine thn (he _ _ _ _ _ s8 σ7 H8 _ J8 q8) fun y s9 ⟨yv, H9, J9, r9, hD9, n9⟩ => ?_
        refine thn (mt_append (X := blk X scope NB g3.objs.size { s2 with heap := g3 } H3 fp) _ s9 σ7 H9 (.ref D) [yv] (.ref D) [y] (fun v H' => v = .non /\ N (ys ++ [yv]) H') J9 rfl (.cons r9 .nil) ⟨D, ys, yv, rfl, rfl, hD9, hlen, rfl, n9⟩) fun _ s10 ⟨_, H10, J10, _, _, n10⟩ => ?_
        exact again J10 n10
  exact codeAny_compStart_list (loop _ rfl) (T.self _ 0 _ _ _ st4 (loop _ rfl))
theorem pe_comp {sc : Scope} {N : List Str} (hcalm : X.calm = true) (B' : BlkOk sc N scope NB fr) (hi : PI X tg iter wi) (hg : ∀ C s H fp, PG (blk X scope NB C s H fp) tg g) (hif : ∀ C s H fp, PIfs (blk X scope NB C s H fp) ifs tc) (he : ∀ C s H fp, PE (blk X scope NB C s H fp) elt te)
    (hs : ∀ x, foldedSetIterable iter X.env x = pure x := by intro _; rfl) (hsc : X.env.scope = sc := by rfl) (hNN : X.N = N := by rfl) : PE X (.ListComp elt [⟨tg, iter, ifs, 0⟩] scope pos) (tComp fr wi g tc te) := by
  have B : BlkOk X.env.scope X.N scope NB fr := by rw [hsc, hNN]; exact B'
  intro pins s σ H Q I h
  rw [eval_ListComp]
  refine wpAny_comprehension_free (use := none) rfl hs (closureFor_closes (B.closed I)) B.kind B.names (thn (hi pins s σ H _ I h) fun v s1 h1 => thn h1 fun itv s2 h2 => ?_)
  refine blk_run hcalm B hg hif he h2 (RR := fun acc C => compPost (model X.prog X.w) X.A X.xe none (EP X pins σ Q) acc C) fun D C H' s' I' f ⟨m, hm⟩ q => ?_
  exact ⟨m, hm, fun h'' hs'' => ⟨.ref D, H', I'.lost hs'' f, rfl, q⟩⟩
theorem ps_comp {sc : Scope} {N : List Str} {i : Nat} {x : Str} {px spos : Pos} (hN : X.N.Nodup) (hix : X.N[i]? = some x) (hx : X.env.scope.names.lookup x = some .local) (hcalm : X.calm = true) (B' : BlkOk sc N scope NB fr) (hi : PI X tg iter wi)
    (hg : ∀ C s H fp, PG (blk X scope NB C s H fp) tg g) (hif : ∀ C s H fp, PIfs (blk X scope NB C s H fp) ifs tc) (he : ∀ C s H fp, PE (blk X scope NB C s H fp) elt te)
    (hsw : swapsWith (.ListComp elt [⟨tg, iter, ifs, 0⟩] scope pos) (some (.Name x px)) spos.line X.env = pure true := by rfl)
    (hs : ∀ x, foldedSetIterable iter X.env x = pure x := by intro _; rfl) (hsc : X.env.scope = sc := by rfl) (hNN : X.N = N := by rfl) : PS X (.Assign [.Name x px] (.ListComp elt [⟨tg, iter, ifs, 0⟩] scope pos) spos) (tAsg (tComp fr wi g tc te) (gName i)) := by
  have B : BlkOk X.env.scope X.N scope NB fr := by rw [hsc, hNN]; exact B'
  intro pins s σ H D I h
  rw [exec_Assign_Name_used _ _ _ _ hsw]
  refine wpAny_bind (wpAny_standAt (wpAny_bind ?_))
  show wpAny _ _ (do let _ <- comprehension (.ListComp elt [⟨tg, iter, ifs, 0⟩] scope pos) scope X.env _ (newList []) false (eval iter X.env) (some (assign (.Name x px) X.env))) _ _ s
  refine wpAny_bind (wpAny_mono (wpAny_comprehension_free (use := some (assign (.Name x px) X.env)) (Q := fun _ s' => SP X pins D .next s') rfl hs (closureFor_closes (B.closed I)) B.kind B.names
    (thn (hi pins s σ H _ I h) fun v s1 h1 => thn h1 fun itv s2 h2 => ?_)) (fun _ s' hq => wpAny_pure (wpAny_pure hq)) fun _ _ z => z)
  refine blk_run hcalm B hg hif he h2 (RR := fun acc C => compPost (model X.prog X.w) X.A X.xe (some (assign (.Name x px) X.env)) (fun _ s' => SP X pins D .next s') acc C) fun Dl C H' s' I' f ⟨m, hm⟩ q => ?_
  show wpAny _ _ (assign (.Name x px) X.env (.ref Dl)) _ _ _
  refine wpAny_assign_Name (store_ok2 I' hN hix (.inl hx) (v := .ref Dl) rfl (fun s3 I3 ⟨a, hs3, ha⟩ => ?_) (.inr hx))
  have ne : C ≠ a := by
    rcases ha with e | e
    · rw [e]; exact f.2.1
    · exact fun z => f.2.2.2.2.1 x a e z.symm
  exact ⟨m, hm.sameBut hs3 ne, fun h'' hs'' => ⟨_, H', I3.lost hs'' f, q⟩⟩
end
end L2
namespace L2
open PySem PySem.Spec PyProof.Rows
structure Cal (P : Program) (w : World) (K : PySem.W.Frag) (mg : Str -> Option Value) (base : Heap) (k : Nat) (x : Str) (ps : List Str) (sp : Sp) : Prop where
  ex : ∃ f fd, FnOk P w K mg base CX0 k f fd ps sp /\ mg x = some (.ref f) /\ PySem.W.keepIn K (.ref f) = true /\ Binds K fd ps []
section
variable {X : Cx} {k : Nat} {x : Str} {ps : List Str} {sp : Sp} {p pos : Pos} {e : Expr} {es : List Expr} {t : TA}
theorem pe_cal (C : Cal X.prog X.w X.K X.mg X.base k x ps sp) (hr : Room k X.A) (hg : Gl X x) (ha : PA X (e :: es) t) (hdb : (x == ("__debug__" : Str)) = false := by decide)
    (he : starEach (e :: es) X.env = (false, eval e X.env) :: starEach es X.env := by rfl) (hpl : (backTo pos (starEach es X.env)).any (·.1) = false := by rfl) : PE X (.Call (.Name x p) (e :: es) [] pos) (tCall sp [] E0 t) := by
  obtain ⟨f, fd, G, m, kk, b⟩ := C.ex
  exact pe_call G hr hg m kk b .nil pass0 ha hdb he hpl
theorem pe_cal0 (C : Cal X.prog X.w X.K X.mg X.base k x ps sp) (hr : Room k X.A) (hg : Gl X x) (hdb : (x == ("__debug__" : Str)) = false := by decide) : PE X (.Call (.Name x p) [] [] pos) (tCall sp [] E0 tNil) := by
  obtain ⟨f, fd, G, m, kk, b⟩ := C.ex
  exact pe_call0 G hr hg m kk b .nil pass0 hdb
end
structure Txt (BN : List Str) (mg : Str -> Option Value) : Prop where
  nb : ∀ x ∈ BN, mg x = none
def CDivP (_ j : Int) : Prop := 0 < j /\ Bits 9000 j
section
variable {X : Cx}
theorem op_fdivP : OpR X (binaryOp .FloorDiv) (rI CDivP fun i j => .int (i / j)) := opI fun i j _ _ _ _ _ hc q => by
  have h1 : (0 : Int) < j := hc.1
  exact floordiv_int (by omega) (by rw [Int.fdiv_eq_ediv_of_nonneg i (by omega)]; exact q) (.inl (PyProof.noPylong_of_log2 (hc.2.log2 (by decide))))
def clsV : V -> Option Value
  | .ty n => some (.type n)
  | .ref C => some (.ref C)
  | _ => none
theorem clsV_rel {c : V} {u cv : Value} (h : clsV c = some cv) (r : RelV c u) : u = cv := by
  cases c with
  | ty n => cases h; exact r
  | ref C => cases h; exact r
  | _ => cases h
theorem call_isi : CallR X (.builtin "isinstance") (fun xs H Q => ∃ x c t cv b, xs = [x, c] /\ clsV c = some cv /\ TyOf X.K H x t /\ PySem.W.kitOne X.K t cv = some b /\ Q (.bl b) H) := by
  intro pins s σ H xs us Q I r h
  obtain ⟨x, c, t, cv, b, rfl, hc, ty, e, q⟩ := h
  obtain ⟨u, u', rfl, r1, r2⟩ := vals2 r
  obtain rfl := clsV_rel hc r2
  exact isinst_ok I r1 ty e fun tk => ⟨.bl b, H, I.tok tk, rfl, q⟩
theorem pe_ty {BN : List Str} {pos : Pos} (T : Txt BN X.mg) (n : String) (hg : Gl X (Str.ofString n) := by rfl) (hn : Str.ofString n ∈ BN := by decide) (hv : bootBuiltins (Str.ofString n) = some (.type n) := by decide +kernel)
    (h1 : Str.ofString n ≠ "__name__" := by decide) (h2 : (Str.ofString n == ("__debug__" : Str)) = false := by decide) : PE X (.Name (Str.ofString n) pos) (tC (.ty n)) := pe_bltn hg (T.nb _ hn) hv rfl h1 h2
theorem bools_of {bs : List Bool} : ∀ {us : List Value}, Vals (bs.map V.bl) us -> LSm.BoolsAre us bs := by
  induction bs with
  | nil => intro us r; cases r; exact .nil
  | cons b bs ih =>
    intro us r
    rw [List.map_cons] at r
    cases r with
    | cons r1 r2 =>
      obtain rfl := (show _ = Value.bool b from r1)
      exact .cons b (ih r2)
theorem call_allB (hc : X.calm = true) : CallR X (.builtin "all") (fun xs H Q => ∃ (a : Addr) (bs : List Bool), xs = [.ref a] /\ SqL X.K H a (bs.map V.bl) /\ Q (.bl (bs.all id)) H) := by
  intro pins s σ H xs us Q I r h
  obtain ⟨a, bs, rfl, hs, q⟩ := h
  obtain ⟨u, rfl, r1⟩ := vals1 r
  obtain rfl : u = Value.ref a := r1
  obtain ⟨its, rv, p, hz⟩ := I.list hs
  have hb := bools_of rv
  have hlt : a < s.heap.objs.size := by obtain ⟨_, e, _⟩ := p.isList; exact Heap.lt_size e
  refine call_all_walk (wpAny_pyIter_list p.isList ?_)
  refine ⟨s.heap.objs.size, [s.heap.objs.size, a], [s.heap.objs.size], its.toArray.size, _, _, fun i => (bs[i]?).getD true, rfl, Walks.list (A := X.A.in1) (I.ok.hd hc) _ a (Nat.ne_of_lt hlt) its.toArray,
    ⟨⟨_, Heap.get?_push_size _ rfl, rfl, rfl⟩, p.isList.push _⟩, fun i v s' Q' E' hP hQ => ?_, fun h' tk hk => ?_⟩
  · obtain ⟨b, e, rfl⟩ := hb.get i v (by simpa using hP)
    simp only [e, Option.getD_some] at hQ
    exact wpAny_truthy_bool hQ
  · have e : ((List.range its.toArray.size).all fun i => (bs[i]?).getD true) = bs.all id := by
      rw [List.size_toArray, hb.length]; exact LSm.range_all bs
    rw [e]
    exact ⟨.bl (bs.all id), H, I.kept (LSm.kept_iter hk), rfl, q⟩
end
theorem Same.new {H : Hp} {p : Addr} (h : H p = none) (o : HO) : Same H (upd H p o) := fun b u q => by rw [upd_ne (ne_of_none q h)]; exact q
theorem Same.seqT {K : PySem.W.Frag} {H H' : Hp} {a : Addr} {xs : List V} (e : Same H H') (h : SqT K H a xs) : SqT K H' a xs := by
  rcases h with (h | ⟨o, h⟩) | h
  · exact .inl (.inl (e _ _ h))
  · exact .inl (.inr ⟨o, e _ _ h⟩)
  · exact .inr h
section
variable {X : Cx} {K : PySem.W.Frag} {pos : Pos}
theorem pg_tupK {es : List Expr} {k : Nat} {t : TGs} {n : Nat} (hK : X.K = K) (hc : X.calm = true) (h : PGs X es t)
    (hn : (assignEach es X.env).length = n := by rfl) (hst : (assignEach es X.env).findIdx? (·.1) = none := by rfl) : PG X (.Tuple es k pos) (gTup K n t) := by subst hK; exact pg_tup hc h hn hst
theorem ix_listK (hK : X.K = K) : IxR X (rIxL K) := by subst hK; exact ix_list
theorem ix_tupK (hK : X.K = K) : IxR X (rIxT K) := by subst hK; exact ix_tup
theorem sl_listK (hK : X.K = K) : SlR X (rSlL K) := by subst hK; exact sl_list
theorem call_lenK (hK : X.K = K) : CallR X (.builtin "len") (fun xs H Q => ∃ p ys, xs = [.ref p] /\ (SqL K H p ys \/ SqT K H p ys) /\ Q (.int ys.length) H) := by subst hK; exact call_len_seq
theorem call_tupleK (hK : X.K = K) : CallR X (.type "tuple") (fun xs H Q => ∃ p ys, xs = [.ref p] /\ ((SqL K H p ys /\ ∀ l, H l = none -> Q (.ref l) (upd H l (.tup ys))) \/ (SqT K H p ys /\ Q (.ref p) H))) := by subst hK; exact call_tuple_of
theorem call_isiK (hK : X.K = K) : CallR X (.builtin "isinstance") (fun xs H Q => ∃ x c t cv b, xs = [x, c] /\ clsV c = some cv /\ TyOf K H x t /\ PySem.W.kitOne K t cv = some b /\ Q (.bl b) H) := by subst hK; exact call_isi
end
theorem comp_seq {J : It} {n : Nat} {fr : List (Option Nat)} {g : TG} {tc : TT} {te : TE} {D : Addr} {σ : St} {H1 : Hp} {Q : VK} (Pv : Nat -> List V -> Hp -> Prop) (h0 : Pv 0 [] (upd H1 D (.lst [])))
    (hD : ∀ i ys H, i <= n -> Pv i ys H -> H D = some (.lst ys) /\ ys.length <= i) (hgo : ∀ i ys H, i < n -> Pv i ys H -> J.go i H) (hstop : ∀ ys H, Pv n ys H -> J.stop n H) (hn : n <= sizeLine)
    (hs : ∀ i ys H x H', i < n -> Pv i ys H -> J.yld i H x H' -> g x (carry fr σ) H' fun σ2 H2 => Wk (carry fr σ) σ2 /\ tc σ2 H2 fun b H3 => if b = true then te σ2 H3 fun y H4 => H4 D = some (.lst ys) /\ Pv (i + 1) (ys ++ [y]) (upd H4 D (.lst (ys ++ [y]))) else Pv (i + 1) ys H3)
    (hd : ∀ ys H, Pv n ys H -> Q (.ref D) H) : tTurns fr g tc te D J σ H1 Q := by
  refine ⟨fun i m ys H => m = n - i /\ i <= n /\ Pv i ys H, ⟨n, by simp, Nat.zero_le _, h0⟩, ?_⟩
  rintro i m ys H ⟨rfl, hi, p⟩
  obtain ⟨q, hl⟩ := hD i ys H hi p
  refine ⟨q, ?_⟩
  by_cases hlt : i < n
  · exact .inr ⟨hgo i ys H hlt p, by omega, Pv (i + 1), fun ys' H' p' => ⟨n - (i + 1), by omega, rfl, hlt, p'⟩, fun x H' y => hs i ys H x H' hlt p y⟩
  · have e : i = n := by omega
    subst e
    exact .inl ⟨hstop ys H p, hd ys H p⟩
theorem comp_list {K : PySem.W.Frag} {a : Addr} {xs : List V} {fr : List (Option Nat)} {g : TG} {tc : TT} {te : TE} {D : Addr} {σ : St} {H1 : Hp} {Q : VK} (Pv : Nat -> List V -> Hp -> Prop) (h0 : Pv 0 [] (upd H1 D (.lst [])))
    (hD : ∀ i ys H, i <= xs.length -> Pv i ys H -> H D = some (.lst ys) /\ ys.length <= i) (hl : ∀ i ys H, i <= xs.length -> Pv i ys H -> SqL K H a xs) (hn : xs.length <= sizeLine)
    (hs : ∀ i x ys H, xs[i]? = some x -> Pv i ys H -> g x (carry fr σ) H fun σ2 H2 => Wk (carry fr σ) σ2 /\ tc σ2 H2 fun b H3 => if b = true then te σ2 H3 fun y H4 => H4 D = some (.lst ys) /\ Pv (i + 1) (ys ++ [y]) (upd H4 D (.lst (ys ++ [y]))) else Pv (i + 1) ys H3)
    (hd : ∀ ys H, Pv xs.length ys H -> Q (.ref D) H) : tTurns fr g tc te D (Itl K a) σ H1 Q := by
  refine comp_seq (n := xs.length) Pv h0 hD (fun i ys H hi p => ⟨xs, xs[i], hl i ys H (Nat.le_of_lt hi) p, by simp [hi]⟩) (fun ys H p => ⟨xs, hl _ ys H (Nat.le_refl _) p, Nat.le_refl _⟩) hn (fun i ys H x H' hi p y => ?_) hd
  obtain ⟨e, y⟩ := y
  subst e
  exact hs i x ys _ (y xs (hl i ys _ (Nat.le_of_lt hi) p)) p
theorem comp_tup {K : PySem.W.Frag} {a : Addr} {xs : List V} {fr : List (Option Nat)} {g : TG} {tc : TT} {te : TE} {D : Addr} {σ : St} {H1 : Hp} {Q : VK} (Pv : Nat -> List V -> Hp -> Prop) (h0 : Pv 0 [] (upd H1 D (.lst [])))
    (hD : ∀ i ys H, i <= xs.length -> Pv i ys H -> H D = some (.lst ys) /\ ys.length <= i) (hl : ∀ i ys H, i <= xs.length -> Pv i ys H -> SqT K H a xs) (hn : xs.length <= sizeLine)
    (hs : ∀ i x ys H, xs[i]? = some x -> Pv i ys H -> g x (carry fr σ) H fun σ2 H2 => Wk (carry fr σ) σ2 /\ tc σ2 H2 fun b H3 => if b = true then te σ2 H3 fun y H4 => H4 D = some (.lst ys) /\ Pv (i + 1) (ys ++ [y]) (upd H4 D (.lst (ys ++ [y]))) else Pv (i + 1) ys H3)
    (hd : ∀ ys H, Pv xs.length ys H -> Q (.ref D) H) : tTurns fr g tc te D (Itt K a) σ H1 Q := by
  refine comp_seq (n := xs.length) Pv h0 hD (fun i ys H hi p => ⟨xs, xs[i], hl i ys H (Nat.le_of_lt hi) p, by simp [hi]⟩) (fun ys H p => ⟨xs, hl _ ys H (Nat.le_refl _) p, Nat.le_refl _⟩) hn (fun i ys H x H' hi p y => ?_) hd
  obtain ⟨e, y⟩ := y
  subst e
  exact hs i x ys _ (y xs (hl i ys _ (Nat.le_of_lt hi) p)) p
theorem Same.upd_old {H H' : Hp} {D : Addr} {o : HO} (e : Same H H') (h : H D = none) : Same H (upd H' D o) := fun b u q => by
  rw [upd_ne (fun z => by rw [z, h] at q; cases q)]; exact e b u q
end L2
namespace L2
open PySem
def KD {α : Type} : Sem α -> Prop
  | .pure _ => True
  | .raise _ => True
  | .unsupported _ => True
  | .finish _ => True
  | .rule _ k => KD (k ())
  | .at _ k => KD (k ())
  | .load _ _ k => ∀ o, KD (k o)
  | .update _ _ f k => (∀ o, (f o).dict = o.dict /\ (o.isFreed = false -> (f o).isFreed = false)) /\ KD (k ())
  | .alloc _ k => ∀ a, KD (k a)
  | .loadIfAlive _ k => ∀ o, KD (k o)
  | .point _ k => KD (k ())
  | .register _ _ => True
  | .fresh k => ∀ t, KD (k t)
  | .ask k => ∀ t, KD (k t)
  | .choose _ _ k => ∀ n, KD (k n)
  | .os _ _ k => ∀ r, KD (k r)
  | .handled _ k => ∀ o, KD (k o)
  | .stack k => ∀ l, KD (k l)
  | .thread k => ∀ n, KD (k n)
  | _ => False
def DK (h h' : Heap) : Prop := ∀ b o, h.get? b = some o -> ∃ o', h'.get? b = some o' /\ o'.dict = o.dict
theorem DK.refl (h : Heap) : DK h h := fun b o e => ⟨o, e, rfl⟩
theorem DK.trans {h h1 h2 : Heap} (x : DK h h1) (y : DK h1 h2) : DK h h2 := fun b o e => by
  obtain ⟨o1, e1, d1⟩ := x b o e
  obtain ⟨o2, e2, d2⟩ := y b o1 e1
  exact ⟨o2, e2, d2.trans d1⟩
theorem DK.of {h h' : Heap} (k : ∀ b o, h.get? b = some o -> h'.get? b = some o) : DK h h' := fun b o e => ⟨o, k b o e, rfl⟩
theorem get_alive {h : Heap} {a : Addr} {o : Obj} (e : h.get? a = some o) : o.isFreed = false := by
  unfold Heap.get? at e
  split at e
  · cases e
  · rename_i hne
    obtain ⟨c, d, dt, sl⟩ := o
    cases dt with
    | freed => exact absurd e (hne c d sl)
    | _ => rfl
theorem DK.upd {h : Heap} {a : Addr} {f : Obj -> Obj} (hf : ∀ o, (f o).dict = o.dict /\ (o.isFreed = false -> (f o).isFreed = false)) : DK h (h.update a f) := fun b o e => by
  by_cases c : b = a
  · subst c
    exact ⟨f o, Heap.get?_update_self f e ((hf o).2 (get_alive e)), (hf o).1⟩
  · exact ⟨o, (Heap.get?_update_other _ _ (Ne.symm c)).trans e, rfl⟩
theorem kd_keep {α : Type} {M : Model} {Γ : Ctx} (h0 : Heap) : ∀ (t : Sem α) {Q : α -> Pos -> Shared -> Prop} {E : Value -> Pos -> Shared -> Prop} {p : Pos} {s : Shared}, KD t -> DK h0 s.heap -> Sem.wp M Γ t Q E p s ->
    Sem.wp M Γ t (fun a p' s' => Q a p' s' /\ DK h0 s'.heap) (fun e p' s' => E e p' s' /\ DK h0 s'.heap) p s := by
  intro t
  induction t with
  | pure a => intro Q E p s k d h; rw [Sem.wp] at *; exact ⟨h, d⟩
  | raise e => intro Q E p s k d h; rw [Sem.wp] at *; exact ⟨h, d⟩
  | rule t k ih => intro Q E p s kd d h; rw [Sem.wp] at *; exact ih () kd d h
  | «at» p' k ih => intro Q E p s kd d h; rw [Sem.wp] at *; exact ih () kd d h
  | load a r k ih => intro Q E p s kd d h; rw [Sem.wp] at *; obtain ⟨o, e, h⟩ := h; exact ⟨o, e, ih o (kd o) d h⟩
  | update a r f k ih => intro Q E p s kd d h; rw [Sem.wp] at *; exact ⟨h.1, ih () kd.2 (d.trans (DK.upd kd.1)) h.2⟩
  | alloc o k ih => intro Q E p s kd d h; rw [Sem.wp] at *; exact ih _ (kd _) (d.trans (DK.of fun b o e => Heap.get?_push_of_some _ e)) h
  | loadIfAlive a k ih => intro Q E p s kd d h; rw [Sem.wp] at *; exact ih _ (kd _) d h
  | point l k ih => intro Q E p s kd d h; rw [Sem.wp] at *; exact ih () kd d h
  | fresh k ih => intro Q E p s kd d h; rw [Sem.wp] at *; exact ih _ (kd _) d h
  | ask k ih => intro Q E p s kd d h; rw [Sem.wp] at *; exact ih _ (kd _) d h
  | choose c n k ih => intro Q E p s kd d h; rw [Sem.wp] at *; exact ⟨h.1, ih _ (kd _) d h.2⟩
  | os q l k ih => intro Q E p s kd d h; rw [Sem.wp] at *; exact ih _ (kd _) d h
  | handled o k ih => intro Q E p s kd d h; rw [Sem.wp] at *; exact ih _ (kd _) d h
  | stack k ih => intro Q E p s kd d h; rw [Sem.wp] at *; exact ih _ (kd _) d h
  | thread k ih => intro Q E p s kd d h; rw [Sem.wp] at *; exact ih _ (kd _) d h
  | unsupported w => intro Q E p s kd d h; rw [Sem.wp] at h; exact h.elim
  | finish w => intro Q E p s kd d h; rw [Sem.wp] at h; exact h.elim
  | register a k => intro Q E p s kd d h; rw [Sem.wp] at h; exact h.elim
  | _ => intro Q E p s kd d h; exact absurd kd (by simp [KD])
theorem wp_kd {α : Type} {M : Model} {A : Around} {t : Sem α} {Q : α -> Shared -> Prop} {E : Value -> Shared -> Prop} {s : Shared} (k : KD t) (h : wpAny M A t Q E s) :
    wpAny M A t (fun a s' => Q a s' /\ DK s.heap s'.heap) (fun e s' => E e s' /\ DK s.heap s'.heap) s := fun Γ p hΓ => kd_keep s.heap t k (DK.refl _) (h Γ p hΓ)
theorem kd_bind {α β : Type} {m : Sem α} {f : α -> Sem β} (h : KD m) (k : ∀ a, KD (f a)) : KD (m >>= f) := by
  show KD (m.bind f)
  induction m with
  | pure a => exact k a
  | raise e => trivial
  | unsupported w => trivial
  | finish w => trivial
  | rule t k ih => exact ih () h
  | «at» p' k ih => exact ih () h
  | load a r k ih => exact fun o => ih o (h o)
  | update a r f k ih => exact ⟨h.1, ih () h.2⟩
  | alloc o k ih => exact fun a => ih a (h a)
  | loadIfAlive a k ih => exact fun a => ih a (h a)
  | point l k ih => exact ih () h
  | fresh k ih => exact fun a => ih a (h a)
  | ask k ih => exact fun a => ih a (h a)
  | choose c n k ih => exact fun a => ih a (h a)
  | os q l k ih => exact fun a => ih a (h a)
  | handled o k ih => exact fun a => ih a (h a)
  | stack k ih => exact fun a => ih a (h a)
  | thread k ih => exact fun a => ih a (h a)
  | register a k => trivial
  | _ => exact absurd h (by simp [KD])
theorem kd_pure {α : Type} {a : α} : KD (Pure.pure a : Sem α) := trivial
theorem kd_uns {α : Type} {w : String} : KD (PySem.unsupported w : Sem α) := trivial
theorem kd_load {a : Addr} : KD (PySem.load a) := fun o => trivial
theorem kd_stack : KD PySem.stack := fun o => trivial
theorem kd_fields {a : Addr} {g : Array Value -> Array Value} : KD (PySem.update a (Obj.mapFields g)) := ⟨fun o => by
  unfold Obj.mapFields
  split
  · exact ⟨rfl, fun _ => rfl⟩
  · exact ⟨rfl, fun h => h⟩, trivial⟩
theorem kd_fieldsOf {v : Value} : KD (fieldsOf v) := by
  unfold fieldsOf
  split
  · refine kd_bind kd_load fun o => ?_
    split
    · exact kd_pure
    · exact kd_uns
  · exact kd_uns
theorem kd_field {v : Value} {i : Nat} : KD (field v i) := by
  unfold field
  refine kd_bind kd_fieldsOf fun vs => ?_
  split
  · exact kd_pure
  · exact kd_uns
theorem kd_setField {v x : Value} {i : Nat} : KD (setField v i x) := by
  unfold setField
  split
  · unfold updateField
    refine kd_bind kd_load fun o => ?_
    split
    · split
      · exact kd_fields
      · exact kd_uns
    · exact kd_uns
  · exact kd_uns
theorem kd_setFlight {v : Value} {f : Option Addr} : KD (setFlight v f) := by
  unfold setFlight
  refine kd_bind kd_field fun tb => ?_
  split
  · exact kd_setField
  · exact kd_pure
theorem kd_entry {f : Addr} {b : Bool} : KD (entryPlaceOf f b) := by
  unfold entryPlaceOf
  refine kd_bind kd_stack fun acts => ?_
  split
  · exact kd_pure
  · exact kd_pure
theorem kd_slots {a : Addr} (g : Obj -> Array (Option Value)) : KD (PySem.update a fun o => { o with slots := g o }) := ⟨fun o => ⟨rfl, fun h => by
  obtain ⟨c, d, dt, sl⟩ := o
  cases dt with
  | freed => exact absurd h (by simp [Obj.isFreed])
  | _ => rfl⟩, trivial⟩
theorem kd_under : KD underTheClaimsCaller := by
  unfold underTheClaimsCaller
  refine kd_bind kd_stack fun acts => ?_
  exact kd_pure
theorem kd_ready : ∀ {l : List Env}, KD (readyFrames l)
  | [] => trivial
  | env :: outer => by
    unfold readyFrames
    split
    · refine kd_bind kd_load fun o => ?_
      split
      · exact kd_pure
      · refine kd_bind ?_ fun b => kd_bind ?_ fun back => kd_bind (kd_slots fun o => _) fun _ => kd_ready
        · unfold behindIsImport
          split
          · exact kd_pure
          · split
            · exact kd_pure
            · exact kd_bind kd_field fun _ => kd_pure
        · unfold keptBack
          split
          · split
            · exact kd_pure
            · exact kd_bind kd_under fun _ => kd_pure
          · exact kd_pure
    · exact kd_uns
theorem kd_frameOf {env : Env} : KD (frameOf env) := by
  unfold frameOf frameEnvs
  refine kd_bind (kd_bind kd_stack fun _ => kd_pure) fun l => kd_bind ?_ fun o => ?_
  · unfold frameObject
    split
    · exact kd_pure
    · exact kd_bind kd_ready fun _ => kd_pure
  · split
    · exact kd_pure
    · exact kd_uns
theorem kd_newEntry {a b c d e : Value} {l : List Value} : KD (EntryCells.newEntry a b c d e l) := by
  have asIs : ∀ vs : Array Value, KD (newObjAsIs (.type "traceback") (.fields vs)) := fun vs => by
    unfold newObjAsIs
    exact kd_bind (fun a => trivial) fun a => kd_pure
  unfold EntryCells.newEntry newFields
  generalize [a, b, c, d, e] ++ (if l.isEmpty = true then List.replicate 6 Value.none else l) = L
  unfold newObj
  dsimp only
  split
  · exact kd_bind kd_uns fun _ => asIs _
  · exact asIs _
theorem kd_note {e : Value} {env : Env} : KD (noteFrame e env) := by
  unfold noteFrame
  split
  · refine kd_bind kd_field fun head => ?_
    have fin : ∀ f : Addr, KD (do setField e 1 (<- EntryCells.newEntry head (<- frameOf env) .none (rawInt f) .none (<- entryPlaceOf f (head != .none)))) := fun f => kd_bind kd_frameOf fun _ => kd_bind kd_entry fun _ => kd_bind kd_newEntry fun _ => kd_setField
    split
    · refine kd_bind kd_field fun v => ?_
      split
      · exact kd_pure
      · exact kd_bind kd_setField fun _ => fin _
    · exact fin _
  · exact kd_uns
theorem kd_leaving {env : Env} {e : Value} : KD («leaving» env e) := kd_bind kd_note fun _ => kd_setFlight
end L2
namespace L2
open PySem PySem.Spec PyProof.Rows
def DictIs (h : Heap) (e : Addr) (dx : Option Addr) : Prop := ∀ d, dx = some d -> ∃ o, h.get? e = some o /\ o.dict = some d
theorem DictIs.dk {h h' : Heap} {e : Addr} {dx : Option Addr} (x : DictIs h e dx) (k : DK h h') : DictIs h' e dx := fun d q => by
  obtain ⟨o, e1, e2⟩ := x d q
  obtain ⟨o', e3, e4⟩ := k _ _ e1
  exact ⟨o', e3, e4.trans e2⟩
def CXE (P : Program) (w : World) : CXT := fun outer H s E ev s' =>
  ∃ (e C : Addr) (a0 : Value) (B : Heap) (H' : Hp) (dx : Option Addr), ev = .ref e /\ s'.os = s.os /\ AllBare s'.gens /\ Un (frs outer) [] H H' s.heap s'.heap /\ HOk P w H' s'.heap /\
    Heap.FlyingW B outer e (.ref C) a0 s'.heap /\ (∀ b u, H' b = some u -> ∃ o, B.get? b = some o) /\ (∀ b o, s.heap.get? b = some o -> b ∉ frs outer -> ∃ o', B.get? b = some o') /\ s.heap.get? e = none /\ DictIs s'.heap e dx /\ E (.ref C) dx H'
theorem hok_there {P : Program} {w : World} {H : Hp} {h : Heap} {a : Addr} {o : HO} (x : ObjOk P w H h a o) : ∃ ob, h.get? a = some ob := by
  cases o with
  | lst xs => obtain ⟨_, _, _, _, e⟩ := x; exact ⟨_, e⟩
  | tup xs => obtain ⟨_, _, _, o, e, _⟩ := x; exact ⟨o, e⟩
  | dK kvs => obtain ⟨_, _, _, _, o, _, _, e, _⟩ := x; exact ⟨o, e⟩
  | dT kvs => obtain ⟨_, _, _, _, o, _, _, e, _⟩ := x; exact ⟨o, e⟩
  | set S n => obtain ⟨o, _, _, _, e, _⟩ := x; exact ⟨o, e⟩
  | ins C dx fs => obtain ⟨_, _, _, e, _⟩ := x; exact ⟨_, e⟩
  | own y => obtain ⟨o, e⟩ := x; exact ⟨o, e⟩
  | xd fs => obtain ⟨_, ⟨o, _, _, e, _⟩, _⟩ := x; exact ⟨o, e⟩
  | rng lo hi => obtain ⟨_, _, _, e⟩ := x; exact ⟨_, e⟩
  | frz ob u => obtain ⟨e, _⟩ := x; exact ⟨_, e⟩
  | tbl ps => exact ⟨_, (show h.get? a = some _ from x)⟩
  | met f y => exact ⟨_, (show h.get? a = some _ from x)⟩
  | ext φ => obtain ⟨_, e, _⟩ := x; exact e
theorem no_fs {b : Addr} : b ∉ ([] : List Addr) := by simp
section
variable {X : Cx} {pins : List (Addr × Obj)} {σ : St} {H : Hp} {s : Shared} {g h' B : Heap} {e C : Addr} {a0 : Value} {E : XK}
theorem stay_by (hs : B.StaysIn g) (hs' : B.StaysIn h') {b : Addr} {o o' : Obj} (hb : B.get? b = some o') (hg : g.get? b = some o) : h'.get? b = some o := by
  have q := hs b o' hb
  rw [hg] at q
  cases q
  exact hs' b o hb
theorem hok_by {P : Program} {w : World} (hok : HOk P w H g) (hs : B.StaysIn g) (hs' : B.StaysIn h') (hT : ∀ b u, H b = some u -> ∃ o, B.get? b = some o) : HOk P w H h' := fun b u q =>
  (hok b u q).stay (fun c v hc r => by
    have ⟨o', z⟩ : ∃ o', B.get? c = some o' := by
      rcases hc with z | z
      · rw [z]; exact hT b u q
      · exact hT c _ z
    exact stay_by hs hs' z r) (fun _ r => r) fun _ _ r => r
theorem leave_fin {dx : Option Addr} (I : Inv X pins σ H s) (hex : X.ex = []) (gk : ∀ b o, s.heap.get? b = some o -> g.get? b = some o) (fl : Heap.FlyingW B X.outer e (.ref C) a0 h') (up : g.UpToSlots h')
    (hB : ∀ b o, X.s₀.heap.get? b = some o -> b ∉ frs X.outer -> ∃ o', B.get? b = some o') (hT : ∀ b u, H b = some u -> ∃ o, B.get? b = some o) (hs : B.StaysIn g) (he : X.s₀.heap.get? e = none) (hdx : DictIs h' e dx) (hE : E (.ref C) dx H) :
    CXE X.prog X.w X.outer X.H₀ X.s₀ E (.ref e) { s with heap := h' } := by
  have nx : ∀ b, b ∉ X.ex := fun b z => by rw [hex] at z; exact absurd z (by simp)
  have sl : ∀ b, b ∈ frs X.outer -> ∃ o o', X.s₀.heap.get? b = some o /\ h'.get? b = some o' /\ (∀ o2, X.s₀.heap.get? b = some o2 -> ∃ sl, o' = { o2 with slots := sl }) := fun b hb => by
    obtain ⟨_, o, ho, hd⟩ := I.ok.funs.mem hb
    obtain ⟨s1, e1⟩ := I.base.slot b o ho (I.ok.frf b hb) hb (nx b)
    obtain ⟨s2, e2⟩ := up b _ (gk b _ e1) hd
    exact ⟨o, _, ho, e2, fun o2 q => by rw [ho] at q; cases q; exact ⟨s2, rfl⟩⟩
  have gfl : HOk X.prog X.w H g := I.hok.kept gk
  refine ⟨e, C, a0, B, H, dx, rfl, I.os, I.bare, ⟨fun b o q n hb _ => ?_, fun b o q n hb _ => ?_, fun b o q n _ => I.base.free b o q n (nx b), fun b o q _ => ?_, I.base.tups, I.base.frzs, I.base.tbls⟩, hok_by gfl hs fl.1 hT, fl, hT, hB, he, hdx, hE⟩
  · obtain ⟨o', z⟩ := hB b o q hb
    exact stay_by hs fl.1 z (gk b o (I.base.keep b o q n hb (nx b)))
  · obtain ⟨_, o', _, z, r⟩ := sl b hb
    obtain ⟨s2, r⟩ := r o q
    exact ⟨s2, by rw [z, r]⟩
  · by_cases hb : b ∈ frs X.outer
    · obtain ⟨_, o', _, z, _⟩ := sl b hb
      exact ⟨o', z⟩
    · obtain ⟨o', z⟩ := hB b o q hb
      exact ⟨o', fl.1 b o' z⟩
theorem Inv.older (I : Inv X pins σ H s) {b : Addr} {o : Obj} (q : X.s₀.heap.get? b = some o) (hb : b ∉ frs X.outer) : b ∉ frs X.stack := fun z => by
  rcases List.mem_cons.mp (I.stkSub b z) with r | r
  · rw [r] at q; exact absurd (Nat.lt_of_lt_of_le (Heap.lt_size q) I.ok.above) (Nat.lt_irrefl _)
  · exact hb r
end
section
variable {P : Program} {w : World} {K : PySem.W.Frag} {mg : Str -> Option Value} {base : Heap} {N : List Str} {qual : Str} {scope : Scope} {f : Addr} {cd : Value} {A : Around} {outer : List Env} {s₀ : Shared} {H₀ : Hp} {E : XK}
theorem raise_outD {pins : List (Addr × Obj)} {σ : St} {H : Hp} {s : Shared} {e C : Addr} {oe : Obj} {vs : Array Value} {a0 : Value} {dx : Option Addr} (I : Inv (cxOf (CXE P w) P w K mg base N qual scope f cd A outer s₀ H₀ E) pins σ H s)
    (he : s.heap.get? e = some oe) (hc : oe.cls = .ref C) (hv : oe.data = .fields vs) (h1 : vs[1]? = some .none) (h0 : vs[0]? = some a0) (hH : H e = none) (he0 : s₀.heap.get? e = none) (hdx : DictIs s.heap e dx) (hE : E (.ref C) dx H) :
    (cxOf (CXE P w) P w K mg base N qual scope f cd A outer s₀ H₀ E).xe (.ref e) s := by
  have hin : ∀ env ∈ (envOfC qual scope s₀.heap.objs.size f cd :: outer), ∀ b, env.frame = some b -> b ∈ e :: frs (envOfC qual scope s₀.heap.objs.size f cd :: outer) := fun env hm b hb => List.mem_cons_of_mem _ (List.mem_filterMap.mpr ⟨env, hm, hb⟩)
  have hg : ∀ b o, s.heap.get? b = some o -> b ≠ e -> b ∉ frs (envOfC qual scope s₀.heap.objs.size f cd :: outer) -> (PySem.W.hideAll s.heap (e :: frs (envOfC qual scope s₀.heap.objs.size f cd :: outer))).get? b = some o := fun b o q hb hn => PySem.W.hideAll_get _ q (fun z => (List.mem_cons.mp z).elim hb hn)
  have hbe : (PySem.W.hideAll s.heap (e :: frs (envOfC qual scope s₀.heap.objs.size f cd :: outer))).get? e = none := PySem.W.hideAll_none _ (List.mem_cons_self ..)
  show wpAny _ _ («leaving» (envOfC qual scope s₀.heap.objs.size f cd) (.ref e)) _ _ _
  refine wpAny_mono (wp_kd kd_leaving (wpAny_leaving_firstW (base := PySem.W.hideAll s.heap (e :: frs (envOfC qual scope s₀.heap.objs.size f cd :: outer))) (Q := fun _ s2 => ∃ h', s2 = { s with heap := h' } /\ Heap.LeftW (PySem.W.hideAll s.heap (e :: frs (envOfC qual scope s₀.heap.objs.size f cd :: outer))) (envOfC qual scope s₀.heap.objs.size f cd :: outer) e oe.cls a0 s.heap h')
    I.ok.frames (PySem.W.funFrames_hide I.stack hin) rfl he (fun b o q => PySem.W.of_hideAll _ q) hbe hv h1 h0 fun h' hL => ⟨h', rfl, hL⟩)) (fun _ s2 z => ?_) (fun _ _ z => z.1)
  obtain ⟨⟨h', rfl, k1, ⟨_, _, k2⟩, k3, k4⟩, dk⟩ := z
  rw [hc] at k3
  refine leave_fin (g := s.heap) I rfl (fun _ _ q => q) (⟨k1, hbe, k2, k3⟩ : Heap.FlyingW _ outer e (.ref C) a0 h') k4 (fun b o q hb => ?_) (fun b u q => ?_) (fun b o q => PySem.W.of_hideAll _ q) he0 (hdx.dk dk) hE
  · obtain ⟨o', z⟩ := I.base.there b o q no_fs
    exact ⟨o', hg b o' z (fun y => by rw [y] at q; exact absurd (q.symm.trans he0) (by simp)) (I.older q hb)⟩
  · obtain ⟨o, z⟩ := hok_there (I.hok b u q)
    exact ⟨o, hg b o z (fun y => by rw [y, hH] at q; cases q) fun hb => by rw [I.stkFree b hb] at q; cases q⟩
theorem pass_out : Passes (CXE P w) (cxOf (CXE P w) P w K mg base N qual scope f cd A outer s₀ H₀ E) E := fun pins σ H s ev s' I h => by
  obtain ⟨e, C, a0, B, H', dx, rfl, os, bare, un, hok, fl, hT, hB, he, hdx, hE⟩ := h
  have I' := I.call' os un hok bare (fun b z => absurd z (by simp))
  show wpAny _ _ («leaving» (envOfC qual scope s₀.heap.objs.size f cd) (.ref e)) _ _ _
  refine wpAny_mono (wp_kd kd_leaving (wpAny_leaves_onW (Q := fun _ s2 => ∃ h', s2 = { s' with heap := h' } /\ Heap.FlyingW B outer e (.ref C) a0 h' /\ s'.heap.UpToSlots h') I.ok.frames rfl fl fun h' f u => ⟨h', rfl, f, u⟩)) (fun _ s2 z => ?_) (fun _ _ z => z.1)
  obtain ⟨⟨h', rfl, fl', up⟩, dk⟩ := z
  refine leave_fin (g := s'.heap) I' rfl (fun _ _ q => q) fl' up (fun b o q hb => ?_) hT fl.1 ?_ (hdx.dk dk) hE
  · obtain ⟨o', z⟩ := I.base.there b o q no_fs
    exact hB b o' z (I.older q hb)
  · cases q : s₀.heap.get? e with
    | none => exact q
    | some o =>
      obtain ⟨o', z⟩ := I.base.there e o q no_fs
      rw [he] at z; cases z
end
end L2
namespace L2
open PySem PySem.Spec PyProof.Rows
def PassG (CX : CXT) (X : Cx) (G : St -> XK) : Prop := ∀ (pins : List (Addr × Obj)) (σ : St) (H : Hp) (s : Shared) (e : Value) (s' : Shared), Inv X pins σ H s -> CX X.stack H s (G σ) e s' -> X.xe e s'
def tCallG (sp : Sp) (dvs : List V) (G : St -> XK) (t : TA) : TE := fun σ H Q => t σ H fun vs H1 => sp (vs ++ dvs) H1 Q (G σ)
structure CalX (P : Program) (w : World) (K : PySem.W.Frag) (mg : Str -> Option Value) (base : Heap) (k : Nat) (x : Str) (ps : List Str) (sp : Sp) : Prop where
  ex : ∃ f fd, FnOk P w K mg base (CXE P w) k f fd ps sp /\ mg x = some (.ref f) /\ PySem.W.keepIn K (.ref f) = true /\ Binds K fd ps []
section
variable {X : Cx} {CX : CXT} {k : Nat} {f : Addr} {fd : FuncData} {ps : List Str} {sp : Sp} {dvs : List V} {ds : List Value} {G : St -> XK} {x : Str} {p pos : Pos} {e : Expr} {es : List Expr} {t : TA}
theorem run_fnG {pins : List (Addr × Obj)} {σ : St} {H : Hp} {s : Shared} {Q : VK} {us : List Value} {vs : List V} (F : FnOk X.prog X.w X.K X.mg X.base CX k f fd ps sp) (hr : Room k X.A) (hb : Binds X.K fd ps ds) (hd : Vals dvs ds) (hx : PassG CX X G)
    (I : Inv X pins σ H s) (r : Vals vs us) (h : sp (vs ++ dvs) H Q (G σ)) : wpAny (model X.prog X.w) X.A (call (.ref f) us) (EP X pins σ Q) X.xe s := by
  have r2 : Vals (vs ++ dvs) (us ++ ds) := r.append hd
  have hl : (us ++ ds).length = ps.length := by rw [<- r2.length]; exact F.len _ _ _ _ h
  refine wpAny_call (codeAny_mono (F.run X.A X.stack s H ⟨us, []⟩ (us ++ ds) (vs ++ dvs) Q (G σ) hr I.env0 (hb s us I.kIn hl) r2 h) fun r s' hq => ?_)
  cases r with
  | error e => exact hx pins σ H s e s' I hq
  | ok fl =>
    cases fl with
    | ret u => exact I.after hq
    | next => exact False.elim hq
    | brk => exact False.elim hq
    | cont => exact False.elim hq
theorem pe_calG (C : CalX X.prog X.w X.K X.mg X.base k x ps sp) (hr : Room k X.A) (hg : Gl X x) (hx : PassG (CXE X.prog X.w) X G) (ha : PA X (e :: es) t) (hdb : (x == ("__debug__" : Str)) = false := by decide)
    (he : starEach (e :: es) X.env = (false, eval e X.env) :: starEach es X.env := by rfl) (hpl : (backTo pos (starEach es X.env)).any (·.1) = false := by rfl) : PE X (.Call (.Name x p) (e :: es) [] pos) (tCallG sp [] G t) := by
  obtain ⟨f, fd, F, m, kk, b⟩ := C.ex
  intro pins s σ H Q I h
  refine wpAny_Call_Name_kw (ld_glob I hg m ?_ hdb)
  refine PySem.W.callWith_K (h₀ := X.base) I.ok.mod.kin kk (thn (ha pos pins s σ H _ I h) fun us s1 ⟨vs, H1, I1, r, q⟩ => ⟨I1.kIn, ?_⟩) he hpl
  exact run_fnG F hr b .nil hx I1 r q
end
structure ExcC (K : PySem.W.Frag) (C : Addr) : Prop where
  ok : PySem.W.excIn K C [.type "ValueError", .type "Exception", .type "BaseException", .type "object"] "ValueError.__new__" = true
def RaiseD (X : Cx) (G : St -> XK) : Prop := ∀ (pins : List (Addr × Obj)) (σ : St) (H : Hp) (s : Shared) (e C : Addr) (oe : Obj) (vs : Array Value) (a0 : Value) (dx : Option Addr), Inv X pins σ H s -> s.heap.get? e = some oe -> oe.cls = .ref C -> oe.data = .fields vs -> vs[1]? = some .none -> vs[0]? = some a0 -> H e = none -> X.s₀.heap.get? e = none -> DictIs s.heap e dx -> G σ (.ref C) dx H -> X.xe (.ref e) s
section
variable {P : Program} {w : World} {K : PySem.W.Frag} {mg : Str -> Option Value} {base : Heap} {N : List Str} {qual : Str} {scope : Scope} {f : Addr} {cd : Value} {A : Around} {outer : List Env} {s₀ : Shared} {H₀ : Hp} {E : XK}
theorem raiseD_out : RaiseD (cxOf (CXE P w) P w K mg base N qual scope f cd A outer s₀ H₀ E) (fun _ => E) := fun _ _ _ _ _ _ _ _ _ _ I he hc hv h1 h0 hH he0 hdx hE => raise_outD I he hc hv h1 h0 hH he0 hdx hE
theorem passG_out : PassG (CXE P w) (cxOf (CXE P w) P w K mg base N qual scope f cd A outer s₀ H₀ E) (fun _ => E) := fun pins σ H s e s' I h => pass_out pins σ H s e s' I h
end
theorem Fun.okX {P : Program} {w : World} {K : PySem.W.Frag} {mg : Str -> Option Value} {base : Heap} {x qual : Str} {st : Stmt} {f : Addr} {fd : FuncData} {N ps : List Str} {k : Nat} {sp : Sp} (F : Fun K x qual st f fd) (S : FnScope N ps (defScope st)) (len : ∀ vs H Q E, sp vs H Q E -> vs.length = ps.length)
    (hbody : ∀ (cdv : Value) (A : Around) (outer : List Env) (s : Shared) (H : Hp) (vs : List V) (Q : VK) (E : XK), Room k (A.deeper (envOfC qual (defScope st) s.heap.objs.size f cdv)) -> sp vs H Q E ->
      ∃ t, PSs (cxOf (CXE P w) P w K mg base N qual (defScope st) f cdv A outer s H E) (defBody st) t /\ t { nx := fun _ H' => Q .non H', rt := Q } (start N vs) H) : FnOk P w K mg base (CXE P w) (k + 1) f fd ps sp := by
  obtain ⟨oc, od, kV, doc, pm, an, cdv, ct, osl, rfl, lk, hcd⟩ := F.ex
  exact fn_of lk hcd S len fun A outer s H vs Q E hr hsp => hbody cdv A outer s H vs Q E hr hsp
def tryC (X : Cx) (pn : List (Addr × Obj)) (G : St -> XK) : Cx := { X with pn := pn, xe := fun ev s' => ∃ σ H s, Inv { X with pn := pn, xe := fun _ _ => False } [] σ H s /\ CXE X.prog X.w X.stack H s (G σ) ev s' }
theorem Inv.like {X Y : Cx} {pins pins' : List (Addr × Obj)} {σ : St} {H : Hp} {s : Shared} (I : Inv X pins σ H s) (ok : Y.Ok) (h1 : Y.s₀ = X.s₀) (h2 : Y.H₀ = X.H₀) (h3 : Y.outer = X.outer) (h4 : Y.ex = X.ex) (h5 : Y.env = X.env) (h6 : Y.N = X.N) (h7 : Y.prog = X.prog) (h8 : Y.w = X.w)
    (hp : ∀ p ∈ Y.pn ++ pins', s.heap.get? p.1 = some p.2 /\ H p.1 = none /\ p.1 ≠ X.env.locals /\ p.1 ∉ X.fs /\ ∀ v, p.2.data ≠ .cell v) : Inv Y pins' σ H s := by
  refine ⟨ok, by rw [h1]; exact I.os, I.bare, by show Un (frs Y.outer) Y.ex Y.H₀ H Y.s₀.heap s.heap; rw [h1, h2, h3, h4]; exact I.base, by rw [h5, h6]; exact I.loc, by rw [h5]; exact I.cell, by rw [h5]; exact I.free, by rw [h5]; exact I.freeC, fun p hm => ?_, by rw [h7, h8]; exact I.hok, by rw [h6]; exact I.len⟩
  show _ /\ _ /\ p.1 ≠ Y.env.locals /\ p.1 ∉ frs Y.outer /\ _
  rw [h5, h3]
  exact hp p hm
theorem tryC_pass {X : Cx} {pn : List (Addr × Obj)} {G : St -> XK} : PassG (CXE X.prog X.w) (tryC X pn G) G := fun pins σ H s e s' I h =>
  ⟨σ, H, s, I.like (Y := { X with pn := pn, xe := fun _ _ => False }) ⟨I.ok.mod, I.ok.kind, I.ok.glob, I.ok.blt, I.ok.above, I.ok.inj, I.ok.has, I.ok.cab, I.ok.hd, I.ok.frames, I.ok.stk, I.ok.exf, I.ok.bs, I.ok.bsz, I.ok.noex, I.ok.exfs, I.ok.funs, I.ok.frf⟩ rfl rfl rfl rfl rfl rfl rfl rfl
    (fun p hp => I.pin p (List.mem_append_left _ (show p ∈ pn by simpa using hp))), h⟩
def excO (C a : Addr) : HO := .ext fun h => ∃ o, h.get? a = some o /\ o.cls = .ref C /\ ∃ vs, o.data = .fields vs
def excD (C a : Addr) : Option Addr -> HO
  | none => excO C a
  | some d => .ext fun h => ∃ o, h.get? a = some o /\ o.cls = .ref C /\ (∃ vs, o.data = .fields vs) /\ o.dict = some d
def hndC (X : Cx) (pn : List (Addr × Obj)) (e : Addr) : Cx := { X with pn := pn, A := X.A.mark (some (.ref e)), calm := false, xe := fun _ _ => False }
def tTry (K : PySem.W.Frag) (c : Addr) (i : Nat) (tb : (St -> XK) -> TS) (ts : TS) : TS := fun D σ H =>
  tb (fun σ1 cls dx H1 => ∃ C, cls = .ref C /\ PySem.W.exmOne K (.ref C) (.ref c) = some true /\ ∀ a, H1 a = none ->
    ts { nx := fun σ2 H2 => D.nx (σ2.set i none) H2, rt := D.rt, bk := fun σ2 H2 => D.bk (σ2.set i none) H2, ct := fun σ2 H2 => D.ct (σ2.set i none) H2 } (σ1.set i (some (.ref a))) (upd H1 a (excD C a dx))) D σ H
end L2
namespace L2
open PySem PySem.Spec PyProof.Rows
section
variable {X : Cx} {pins : List (Addr × Obj)} {σ : St} {H : Hp} {s : Shared}
theorem gone_ok {M : Model} {A : Around} {E : Value -> Shared -> Prop} {Q : Unit -> Shared -> Prop} {i : Nat} {n : Str} {pos : Pos} (I : Inv X pins σ H s) (hN : X.N.Nodup) (hi : X.N[i]? = some n) (hl : X.env.scope.names.lookup n = some .local)
    (h : ∀ s', Inv X pins (σ.set i none) H s' -> Q () s') : wpAny M A (do bindName X.env n .none; unbindBehindTheSuite X.env n pos) Q E s := by
  obtain ⟨m, hn, hv⟩ := id I.loc
  have hcls : (X.env.scope.kind == .class || (X.env.scope.kind == .module && X.env.locals != X.env.globals)) = false := by rw [I.ok.kind]; rfl
  refine wpAny_nameGoes_keeps hl hn hcls fun h' v hn' hs => ?_
  have old : ∀ b o, X.s₀.heap.get? b = some o -> b ≠ X.env.locals := fun b o e => Nat.ne_of_lt (Nat.lt_of_lt_of_le (Heap.lt_size e) I.ok.above)
  have trk : HOk X.prog X.w H h' := fun b ob e => by
    refine (I.hok b ob e).stay (fun c w' hc q => (hs.2 c ?_).trans q) (fun _ q => q) fun _ _ q => q
    rintro rfl
    rcases hc with hc | hc
    · rw [<- hc, I.free] at e; cases e
    · rw [I.free] at hc; cases hc
  refine h _ ⟨I.ok, I.os, I.bare, ⟨fun b o e nn hb hx => (hs.2 b (old b o e)).trans (I.base.keep b o e nn hb hx), fun b o e nn hb hx => ?_, I.base.free, fun b o e hx => ?_, I.base.tups, I.base.frzs, I.base.tbls⟩,
    ⟨_, hn', fun j y v' e1 e2 e3 => ?_⟩, fun y c e => ?_, I.free, I.freeC, fun p hp => ?_, trk, by simpa using I.len⟩
  · obtain ⟨sl, e1⟩ := I.base.slot b o e nn hb hx
    exact ⟨sl, (hs.2 b (old b o e)).trans e1⟩
  · obtain ⟨o', e1⟩ := I.base.there b o e hx
    exact ⟨o', (hs.2 b (old b o e)).trans e1⟩
  · by_cases hj : j = i
    · subst hj
      rw [List.getElem?_set] at e2
      simp at e2
    · rw [List.getElem?_set_ne (Ne.symm hj)] at e2
      obtain ⟨u', r', q⟩ := hv j y v' e1 e2 e3
      refine ⟨u', r', ?_⟩
      rcases q with ⟨k, e⟩ | ⟨k, c, e, z⟩
      · refine .inl ⟨k, ?_⟩
        have : y ≠ n := fun e => hj (nodup_ix hN e1 (e ▸ hi))
        simp [this, e]
      · exact .inr ⟨k, c, e, z.sameBut hs (I.cne y c e)⟩
  · obtain ⟨w2, z2⟩ := I.cell y c e
    exact ⟨w2, z2.sameBut hs (I.cne y c e)⟩
  · obtain ⟨e, nn, ne, nf, d⟩ := I.pin p hp
    exact ⟨(hs.2 p.1 ne).trans e, nn, ne, nf, d⟩
theorem land_inv {dx : Option Addr} {s1 : Shared} {h' B : Heap} {H' : Hp} {e C : Addr} {a0 : Value} (I : Inv X pins σ H s) (os : s1.os = s.os) (bare : AllBare s1.gens) (un : Un (frs X.stack) [] H H' s.heap s1.heap) (hok : HOk X.prog X.w H' s1.heap)
    (f1 : B.StaysIn s1.heap) (fl : Heap.FlyingW B X.stack e (.ref C) a0 h') (up : s1.heap.UpToSlots h') (hT : ∀ b u, H' b = some u -> ∃ o, B.get? b = some o) (hB : ∀ b o, s.heap.get? b = some o -> b ∉ frs X.stack -> ∃ o', B.get? b = some o') (he : s.heap.get? e = none) (hdx : DictIs h' e dx) :
    Inv X pins σ (upd H' e (excD C e dx)) { s1 with heap := h' } := by
  have he' : H' e = none := by
    cases q : H' e with
    | none => rfl
    | some u =>
      obtain ⟨o, z⟩ := hT e u q
      rw [fl.2.1] at z; cases z
  have ne : ∀ b o, s.heap.get? b = some o -> b ≠ e := fun b o q z => by rw [z, he] at q; cases q
  have neT : ∀ b u, H b = some u -> b ≠ e := fun b u q => by
    obtain ⟨o, z⟩ := hok_there (I.hok b u q)
    exact ne b o z
  have slot : ∀ b o, s.heap.get? b = some o -> b ∈ frs X.stack -> ∃ sl, h'.get? b = some { o with slots := sl } := fun b o q hb => by
    obtain ⟨sl, q1⟩ := un.slot b o q (I.stkFree b hb) hb (by simp)
    obtain ⟨_, o2, ho2, hd⟩ := I.stack.mem hb
    rw [q] at ho2
    cases ho2
    obtain ⟨sl', z⟩ := up b _ q1 hd
    exact ⟨sl', z⟩
  obtain ⟨k1, k2, k3, oe, vs, T, oT, ts, hoe, ⟨hcls, h0⟩, hd, _⟩ := fl
  refine I.call' (s' := { s1 with heap := h' }) (ch := []) os ⟨fun b o q n hb _ => ?_, fun b o q n hb _ => slot b o q hb, fun b o q n _ => ?_, fun b o q _ => ?_, fun b xs q => ?_, fun b o u q => ?_, fun b ps q => ?_⟩ (fun b u q => ?_) bare fun b z => absurd z (by simp)
  · obtain ⟨o', z⟩ := hB b o q hb
    exact stay_by f1 k1 z (un.keep b o q n hb (by simp))
  · rw [upd_ne (ne b o q)]; exact un.free b o q n (by simp)
  · by_cases hb : b ∈ frs X.stack
    · obtain ⟨sl, z⟩ := slot b o q hb
      exact ⟨_, z⟩
    · obtain ⟨o', z⟩ := hB b o q hb
      exact ⟨o', k1 b o' z⟩
  · rw [upd_ne (neT b _ q)]; exact un.tups b xs q
  · rw [upd_ne (neT b _ q)]; exact un.frzs b o u q
  · rw [upd_ne (neT b _ q)]; exact un.tbls b ps q
  · by_cases hb : b = e
    · subst hb
      rw [upd_same] at q
      cases q
      cases dx with
      | none => exact ⟨⟨oe, hoe, hcls, vs, hd⟩, ⟨oe, hoe⟩, fun h1 h2 ⟨o, z, r⟩ st => ⟨o, st o z, r⟩⟩
      | some d =>
        obtain ⟨o2, ho2, hd2⟩ := hdx d rfl
        rw [hoe] at ho2
        cases ho2
        exact ⟨⟨oe, hoe, hcls, ⟨vs, hd⟩, hd2⟩, ⟨oe, hoe⟩, fun h1 h2 ⟨o, z, r⟩ st => ⟨o, st o z, r⟩⟩
    · rw [upd_ne hb] at q
      refine (hok b u q).stay (fun c v hc r => ?_) (fun c r => by rw [upd_ne (ne_of_none r he')]; exact r) fun c xs r => by rw [upd_ne (ne_of_none r he')]; exact r
      have ⟨o', z⟩ : ∃ o', B.get? c = some o' := by
        rcases hc with z | z
        · rw [z]; exact hT b u q
        · exact hT c _ z
      exact stay_by f1 k1 z r
end
theorem passG_never {X : Cx} {P : Program} {w : World} : PassG (CXE P w) X (fun _ _ _ _ => False) := fun pins σ H s e s' I h => by
  obtain ⟨_, _, _, _, _, _, _, _, _, _, _, _, _, _, _, _, hE⟩ := h
  exact hE.elim
section
variable {X : Cx} {c : Addr} {i : Nat} {x n : Str} {np hpos pos : Pos} {body suite : List Stmt} {b0 : Stmt} {tb : (St -> XK) -> TS} {ts : TS}
theorem ps_try (hst : X.stack = X.env :: X.outer) (hfr : X.env.frame = some X.env.locals) (hg : Gl X x) (hm : X.mg x = some (.ref c)) (hN : X.N.Nodup) (hi : X.N[i]? = some n) (hn : X.env.scope.names.lookup n = some .local)
    (hb : ∀ pn G, PSs (tryC X pn G) body (tb G)) (hs : ∀ pn e, PSs (hndC X pn e) (b0 :: suite) ts) (hdb : (x == ("__debug__" : Str)) = false := by decide) :
    PS X (.Try body [.ExceptHandler (some (.Name x np)) (some n) (b0 :: suite) hpos] [] [] pos) (tTry X.K c i tb ts) := by
  intro pins s σ H D I h
  refine wpAny_Try_except ?_
  have okT : ∀ G, (tryC X (X.pn ++ pins) G).Ok := fun G => ⟨I.ok.mod, I.ok.kind, I.ok.glob, I.ok.blt, I.ok.above, I.ok.inj, I.ok.has, I.ok.cab, I.ok.hd, I.ok.frames, I.ok.stk, I.ok.exf, I.ok.bs, I.ok.bsz, I.ok.noex, I.ok.exfs, I.ok.funs, I.ok.frf⟩
  have okH : ∀ e, (hndC X (X.pn ++ pins) e).Ok := fun e => ⟨I.ok.mod, I.ok.kind, I.ok.glob, I.ok.blt, I.ok.above, I.ok.inj, I.ok.has, I.ok.cab, fun z => (Bool.noConfusion z), I.ok.frames, I.ok.stk, I.ok.exf, I.ok.bs, I.ok.bsz, I.ok.noex, I.ok.exfs, I.ok.funs, I.ok.frf⟩
  have I0 : ∀ G, Inv (tryC X (X.pn ++ pins) G) [] σ H s := fun G => I.like (Y := tryC X (X.pn ++ pins) G) (okT G) rfl rfl rfl rfl rfl rfl rfl rfl fun p hp => I.pin p (by simpa [tryC] using hp)
  refine wpAny_mono (hb (X.pn ++ pins) _ [] s σ H D (I0 _) h) (fun f s1 q => ?_) (fun ev s1 q => ?_)
  · cases f with
    | next =>
      obtain ⟨σ', H', J, q⟩ := q
      exact wpAny_execs_nil ⟨σ', H', J.like (Y := X) I.ok rfl rfl rfl rfl rfl rfl rfl rfl fun p hp => J.pin p (by simpa [tryC] using hp), q⟩
    | brk =>
      obtain ⟨σ', H', J, q⟩ := q
      exact ⟨σ', H', J.like (Y := X) I.ok rfl rfl rfl rfl rfl rfl rfl rfl fun p hp => J.pin p (by simpa [tryC] using hp), q⟩
    | cont =>
      obtain ⟨σ', H', J, q⟩ := q
      exact ⟨σ', H', J.like (Y := X) I.ok rfl rfl rfl rfl rfl rfl rfl rfl fun p hp => J.pin p (by simpa [tryC] using hp), q⟩
    | ret u =>
      obtain ⟨v, σ', H', J, r, q⟩ := q
      exact ⟨v, σ', H', J.like (Y := X) I.ok rfl rfl rfl rfl rfl rfl rfl rfl fun p hp => J.pin p (by simpa [tryC] using hp), r, q⟩
  · obtain ⟨σ1, H1, s0, J, e, C, a0, B, H', dx, rfl, os, bare, un, hok, fl, hT, hB, he, hdx, C', hC, hx, hts⟩ := q
    cases hC
    have he' : H' e = none := by
      cases q : H' e with
      | none => rfl
      | some u =>
        obtain ⟨o, z⟩ := hT e u q
        rw [fl.2.1] at z; cases z
    have hfrm : X.A.frames = some (X.env :: X.outer) := by rw [<- hst]; exact I.ok.frames
    have fl0 : Heap.FlyingW B (X.env :: X.outer) e (.ref C) a0 s1.heap := by rw [<- hst]; exact fl
    have toH : ∀ {σ2 : St} {H2 : Hp} {s2 : Shared}, Inv { X with pn := X.pn ++ pins, xe := fun _ _ => False } [] σ2 H2 s2 -> Inv (hndC X (X.pn ++ pins) e) [] σ2 H2 s2 := fun {σ2 H2 s2} L =>
      L.like (Y := hndC X (X.pn ++ pins) e) (okH e) rfl rfl rfl rfl rfl rfl rfl rfl fun p hp => L.pin p (by simpa [hndC] using hp)
    have toX : ∀ {σ2 : St} {H2 : Hp} {s2 : Shared}, Inv (hndC X (X.pn ++ pins) e) [] σ2 H2 s2 -> Inv X pins σ2 H2 s2 := fun {σ2 H2 s2} L =>
      L.like (Y := X) I.ok rfl rfl rfl rfl rfl rfl rfl rfl fun p hp => L.pin p (by simpa [hndC] using hp)
    have land : ∀ h', Heap.FlyingW B (X.env :: X.outer) e (.ref C) a0 h' -> s1.heap.UpToSlots h' -> DK s1.heap h' -> Inv (hndC X (X.pn ++ pins) e) [] σ1 (upd H' e (excD C e dx)) { s1 with heap := h' } := fun h' f u dk =>
      toH (land_inv J os bare un hok fl.1 (by show Heap.FlyingW B X.stack e (.ref C) a0 h'; rw [hst]; exact f) u hT hB he (hdx.dk dk))
    refine wpAny_mono (wp_kd kd_note (wpAny_looks_onW (Q := fun _ s2 => ∃ h4, s2 = { s1 with heap := h4 } /\ Heap.HeldW B (X.env :: X.outer) e (.ref C) a0 X.env.locals h4 /\ s1.heap.UpToSlots h4) hfrm hfr fl0 fun h u v => ⟨h, rfl, u, v⟩)) (fun _ s4 z => ?_) (fun _ _ z => z.1)
    obtain ⟨⟨h4, rfl, held4, up4⟩, dk4⟩ := z
    refine wpAny_mono (wp_kd kd_setFlight (wpAny_landsW (Q := fun _ s2 => ∃ h5, s2 = { s1 with heap := h5 } /\ Heap.FlyingW B (X.env :: X.outer) e (.ref C) a0 h5 /\ h4.UpToSlots h5) held4 fun h u v => ⟨h, rfl, u, v⟩)) (fun _ s5 z => ?_) (fun _ _ z => z.1)
    obtain ⟨⟨h5, rfl, fl5, up5⟩, dk5⟩ := z
    have K5 := land h5 fl5 (up4.trans up5) (dk4.trans dk5)
    refine wpAny_handleBy_cons (codeAny_handlers_test (ld_glob (X := hndC X (X.pn ++ pins) e) K5 hg hm ?_ hdb)) (by intro q; cases q)
    have LT : PySem.W.Looks (model X.prog X.w) h5 (typeOf (.ref e)) (.ref C) := by
      obtain ⟨ob, hob, hcl⟩ := fl5.there
      exact hcl ▸ (PySem.W.Looks.ld hob).andThen .now
    refine (PySem.W.exm_one (K := X.K) K5.kIn LT hx).here ?_
    refine codeAny_handlers_suite_as ?_
    refine wpAny_mono (wp_kd kd_setFlight (lands_againW (Q := fun _ s2 => ∃ h6, s2 = { s1 with heap := h6 } /\ Heap.FlyingW B (X.env :: X.outer) e (.ref C) a0 h6 /\ h5.UpToSlots h6) fl5 fun h u v => ⟨h, rfl, u, v⟩)) (fun _ s6 z => ?_) (fun _ _ z => z.1)
    obtain ⟨⟨h6, rfl, fl6, up6⟩, dk6⟩ := z
    have K6 := land h6 fl6 (up4.trans (up5.trans up6)) (dk4.trans (dk5.trans dk6))
    refine store_ok (X := hndC X (X.pn ++ pins) e) K6 hN hi (.inl hn) (v := .ref e) rfl (fun s7 K7 => ?_) (.inr hn)
    refine wpAny_mono (hs (X.pn ++ pins) e [] s7 (σ1.set i (some (.ref e))) _ _ K7 (hts e he')) (fun f s8 q8 => ?_) (fun _ _ z => z.elim)
    cases f with
    | next =>
      obtain ⟨σ8, H8, K8, q8⟩ := q8
      exact gone_ok (X := hndC X (X.pn ++ pins) e) K8 hN hi hn fun s9 K9 => ⟨_, _, toX K9, q8⟩
    | brk =>
      obtain ⟨σ8, H8, K8, q8⟩ := q8
      exact gone_ok (X := hndC X (X.pn ++ pins) e) K8 hN hi hn fun s9 K9 => ⟨_, _, toX K9, q8⟩
    | cont =>
      obtain ⟨σ8, H8, K8, q8⟩ := q8
      exact gone_ok (X := hndC X (X.pn ++ pins) e) K8 hN hi hn fun s9 K9 => ⟨_, _, toX K9, q8⟩
    | ret u =>
      obtain ⟨v, σ8, H8, K8, r8, q8⟩ := q8
      exact gone_ok (X := hndC X (X.pn ++ pins) e) K8 hN hi hn fun s9 K9 => ⟨_, _, _, toX K9, r8, q8⟩
end
end L2
namespace L2
open PySem PySem.Spec PyProof.Rows
theorem eqAt_rel {A : Around} {s : Shared} {x : V} {u v : Value} (h1 : RelV x u) (h2 : RelV x v) (hf : ∀ z, x ≠ .flt z) (hb : ∀ z, x ≠ .byt z) : SeqAt.EqAt A s u v true := by
  cases x with
  | non => cases h1; cases h2; exact SeqAt.EqAt.same _
  | bl b => cases h1; cases h2; exact SeqAt.EqAt.same _
  | int i =>
    obtain ⟨t, rfl⟩ := h1
    obtain ⟨t', rfl⟩ := h2
    have := SeqAt.EqAt.int_int (A := A) (s := s) i t i t'
    rwa [beq_self_eq_true] at this
  | str z =>
    obtain ⟨t, rfl⟩ := h1
    obtain ⟨t', rfl⟩ := h2
    have := SeqAt.EqAt.str_str (A := A) (s := s) z t z t'
    rwa [beq_self_eq_true] at this
  | byt z => exact absurd rfl (hb z)
  | flt z => exact absurd rfl (hf z)
  | ref a => cases h1; cases h2; exact SeqAt.EqAt.same _
  | ty n => cases h1; cases h2; exact SeqAt.EqAt.same _
def plainV : V -> Bool
  | .flt _ => false
  | .byt _ => false
  | _ => true
theorem vals_at {xs : List V} {us : List Value} (r : Vals xs us) {j : Nat} (h1 : j < xs.length) (h2 : j < us.length) : RelV xs[j] us[j] := by
  obtain ⟨u, e, q⟩ := r.get (i := j) (x := xs[j]) (by simp [h1])
  have : us[j]? = some us[j] := by simp [h2]
  rw [this] at e
  cases e
  exact q
end L2
namespace L2
open PySem PySem.Spec PyProof.Rows
structure DefAt (K : PySem.W.Frag) (x : Str) (st : Stmt) : Prop where
  ex : ∃ (f : Addr) (oc : Value) (od : Option Addr) (osl : Array (Option Value)) (kV doc pm : Value) (an : Option Addr) (cdv ct : Value), PySem.W.nsIn K mainGlobals x = some (some (.ref f)) /\
    K.lookup f = some ⟨oc, od, .func (PySem.W.fnOf x x (defArgs st) (defBody st) (defScope st) .none kV doc pm an cdv ct), osl⟩ /\ PySem.W.codeIn K cdv x = true /\ PySem.W.keepIn K (.ref f) = true
theorem defAt {K : PySem.W.Frag} {x : Str} {st : Stmt} {f : Addr} {oc : Value} {od : Option Addr} {osl : Array (Option Value)} {kV doc pm : Value} {an : Option Addr} {cdv ct : Value} (a : PySem.W.nsIn K mainGlobals x = some (some (.ref f)))
    (l : K.lookup f = some ⟨oc, od, .func (PySem.W.fnOf x x (defArgs st) (defBody st) (defScope st) .none kV doc pm an cdv ct), osl⟩) (c : PySem.W.codeIn K cdv x = true) (k : PySem.W.keepIn K (.ref f) = true) : DefAt K x st := ⟨⟨f, oc, od, osl, kV, doc, pm, an, cdv, ct, a, l, c, k⟩⟩
def BindAt (x : Str) (st : Stmt) (ps : List Str) : Prop := ∀ (kV doc pm : Value) (an : Option Addr) (cdv ct : Value) (us : List Value), us.length = ps.length -> bindArgs (PySem.W.fnOf x x (defArgs st) (defBody st) (defScope st) .none kV doc pm an cdv ct) ⟨us, []⟩ = pure (ps.zip us)
section
variable {P : Program} {w : World} {K : PySem.W.Frag} {mg : Str -> Option Value} {base h : Heap} {x : Str} {st : Stmt} {ps : List Str} {k : Nat} {sp : Sp}
theorem DefAt.cal (D : DefAt K x st) (X : K.In h) (G : h.Ns mainGlobals mg) (hb : BindAt x st ps) (mk : ∀ f fd, Fun K x x st f fd -> FnOk P w K mg base CX0 k f fd ps sp) : Cal P w K mg base k x ps sp := by
  obtain ⟨f, oc, od, osl, kV, doc, pm, an, cdv, ct, a, l, c, kk⟩ := D.ex
  have F := fun_mk (st := st) l c kk
  exact ⟨⟨f, _, mk f _ F, PySem.W.mg_of X G a, kk, F.binds hb⟩⟩
theorem DefAt.law {fa : Addr} {y : Str} (D : DefAt K x st) (X : K.In h) (G : h.Ns mainGlobals mg) (hfa : mg x = some (.ref fa)) (hb : BindAt x st [y]) (mk : ∀ f fd (base : Heap), Fun K x x st f fd -> K.In base -> base.Ns mainGlobals mg -> FnOk P w K mg base CX0 k f fd [y] sp) :
    ∃ fd : FuncData, (∀ (s : Shared) (u : Value), BindsTo s fd ⟨[u], []⟩ [(y, u)]) /\ ∀ base : Heap, K.In base -> base.Ns mainGlobals mg -> FnOk P w K mg base CX0 k fa fd [y] sp := by
  obtain ⟨f, oc, od, osl, kV, doc, pm, an, cdv, ct, a, l, c, kk⟩ := D.ex
  have F := fun_mk (st := st) l c kk
  have e := hfa.symm.trans (PySem.W.mg_of X G a)
  cases e
  exact ⟨_, fun s u => .of_eq (hb kV doc pm an cdv ct [u] rfl), fun base kb nb => mk fa _ base F kb nb⟩
theorem txt_nil : Txt [] mg := ⟨fun _ h => absurd h (by simp)⟩
theorem txt_cons {y : Str} {BN : List Str} (X : K.In h) (G : h.Ns mainGlobals mg) (a : PySem.W.nsIn K mainGlobals y = some none) (r : Txt BN mg) : Txt (y :: BN) mg := ⟨fun z hz => by
  rcases List.mem_cons.mp hz with e | e
  · rw [e]; exact PySem.W.mg_none_of X G a
  · exact r.nb z e⟩
end
def spLaw (K : PySem.W.Frag) : Sp := fun vs H Q _ => ∃ (a : Addr) (ns : List Int), vs = [.ref a] /\ SqL K H a (ns.map V.int) /\ ns.length <= 63 /\ ∀ H', Q (.bl true) H'
theorem walkLaw {l : PySem.W.OpenLaw} {q : Program} {loose : List Str} {XP : (Str -> Option Value) -> Heap -> Prop} {YP : World -> Heap -> Prop} {d : DefRec} {K : Params -> PySem.W.Frag} {k : Nat} {x : Str} (hn : l.most = some 63) (hdf : d.params.defaults = []) (hk : Room k callerA)
    (hY : ∀ (w : World) (h : Heap), YP w h -> (K w.params).In h)
    (F : ∀ (w : World) (mg : Str -> Option Value) (fa : Addr) (h : Heap), (K w.params).In h -> h.Ns mainGlobals mg -> mg d.name = some (.ref fa) ->
      ∃ fd : FuncData, (∀ (s : Shared) (u : Value), BindsTo s fd ⟨[u], []⟩ [(x, u)]) /\ ∀ base : Heap, (K w.params).In base -> base.Ns mainGlobals mg -> FnOk l.prog w (K w.params) mg base CX0 k fa fd [x] (spLaw (K w.params))) :
    PySem.W.WalkO q loose XP YP l.row.toRowW d [] (fun f vs => PySem.call f vs) :=
  L2.walk_of (n := 63) (k := k) (x := x) (CX := fun _ => CX0) (sp := fun w => spLaw (K w.params)) hn (by decide) hdf hk hY F (fun _ _ a ns hl _ hS => ⟨a, ns, rfl, hS, hl, fun _ => rfl⟩) fun _ _ _ _ _ z => z
end L2
namespace Mw
theorem iabs (i : Int) : (if i < 0 then -i else i) = (i.natAbs : Int) := by
  split <;> omega
theorem gcd_turn {a b : Int} (ha : 0 <= a) (hb : 0 <= b) : Int.gcd b (a % b) = Int.gcd a b := by
  have e1 : ((a.natAbs : Nat) : Int) = a := Int.natAbs_of_nonneg ha
  have e2 : ((b.natAbs : Nat) : Int) = b := Int.natAbs_of_nonneg hb
  rw [<- e1, <- e2, <- Int.natCast_emod, Int.gcd_natCast_natCast, Int.gcd_natCast_natCast, Nat.gcd_comm a.natAbs, Nat.gcd_rec b.natAbs a.natAbs]
  exact Nat.gcd_comm _ _
theorem gcd_end {a : Int} (ha : 0 <= a) : (Int.gcd a 0 : Int) = a := by rw [Int.gcd_zero_right]; exact Int.natAbs_of_nonneg ha
theorem gcd_abs (a b : Int) : Int.gcd (a.natAbs : Int) (b.natAbs : Int) = Int.gcd a b := by
  rw [Int.gcd_natCast_natCast]; rfl
theorem gcd_le_right {t b : Int} (h : b ≠ 0) : Int.gcd t b <= b.natAbs := by
  have := Int.gcd_dvd_right t b
  exact Nat.le_of_dvd (by omega) (by have q := Int.natAbs_dvd_natAbs.mpr this; simpa using q)
end Mw
namespace Mw
def lcmF (bs : List Int) : Int := bs.foldl (fun m n => m * (n / (Int.gcd m n : Int))) 1
theorem lcm_step_dvd_left (m n : Int) : m ∣ m * (n / (Int.gcd m n : Int)) := Int.dvd_mul_right _ _
theorem lcm_step_dvd_right (m n : Int) : n ∣ m * (n / (Int.gcd m n : Int)) := by
  have g1 : (Int.gcd m n : Int) ∣ m := Int.gcd_dvd_left m n
  have g2 : (Int.gcd m n : Int) ∣ n := Int.gcd_dvd_right m n
  have e2 := Int.mul_ediv_cancel' g2
  obtain ⟨q, hq⟩ := g1
  refine ⟨q, ?_⟩
  calc m * (n / (Int.gcd m n : Int)) = ((Int.gcd m n : Int) * q) * (n / (Int.gcd m n : Int)) := by rw [<- hq]
    _ = ((Int.gcd m n : Int) * (n / (Int.gcd m n : Int))) * q := by rw [Int.mul_assoc, Int.mul_comm q, <- Int.mul_assoc]
    _ = n * q := by rw [e2]
theorem lcmG_dvd : ∀ (bs : List Int) (m : Int), (m ∣ bs.foldl (fun m n => m * (n / (Int.gcd m n : Int))) m) /\ ∀ b ∈ bs, b ∣ bs.foldl (fun m n => m * (n / (Int.gcd m n : Int))) m
  | [], m => ⟨Int.dvd_refl _, fun _ h => absurd h (by simp)⟩
  | b :: r, m => by
    obtain ⟨h1, h2⟩ := lcmG_dvd r (m * (b / (Int.gcd m b : Int)))
    refine ⟨Int.dvd_trans (lcm_step_dvd_left m b) h1, fun x hx => ?_⟩
    rcases List.mem_cons.mp hx with e | e
    · rw [e]; exact Int.dvd_trans (lcm_step_dvd_right m b) h1
    · exact h2 x e
theorem lcmF_dvd {bs : List Int} {b : Int} (h : b ∈ bs) : b ∣ lcmF bs := (lcmG_dvd bs 1).2 b h
theorem lcmF_snoc (bs : List Int) (b : Int) : lcmF (bs ++ [b]) = lcmF bs * (b / (Int.gcd (lcmF bs) b : Int)) := by
  unfold lcmF; rw [List.foldl_append]; rfl
end Mw
namespace L2
theorem iteN {c A B : Prop} [Decidable c] (hc : ¬ c) (h : A) : if (!decide c) = true then A else B := by
  rw [decide_eq_false hc]; exact iteT h
theorem iteD {c A B : Prop} [Decidable c] (h1 : c -> A) (h2 : ¬ c -> B) : if decide c = true then A else B := by
  by_cases h : c
  · rw [decide_eq_true h]; exact iteT (h1 h)
  · rw [decide_eq_false h]; exact iteF (h2 h)
end L2
namespace Mw
open PySem L2
theorem take_snoc {α : Type} {l : List α} {i : Nat} {x : α} (h : l[i]? = some x) : l.take (i + 1) = l.take i ++ [x] := by
  rw [List.take_add_one, h]; rfl
theorem of_map {α : Type} {g : α -> V} {l : List α} {i : Nat} {v : V} (h : (l.map g)[i]? = some v) : ∃ x, l[i]? = some x /\ v = g x := by
  rw [List.getElem?_map] at h
  cases e : l[i]? with
  | none => rw [e] at h; cases h
  | some x => rw [e] at h; exact ⟨x, rfl, (Option.some.inj h).symm⟩
theorem paired_get {α β : Type} {R : α -> β -> Prop} : ∀ {as : List α} {bs : List β} {i : Nat} {a : α}, Paired R as bs -> as[i]? = some a -> ∃ b, bs[i]? = some b /\ R a b
  | _, _, _, _, .nil, e => by simp at e
  | _, _, 0, _, .cons r _, e => by simp at e; subst e; exact ⟨_, rfl, r⟩
  | _, _, i + 1, a, .cons _ t, e => by
    obtain ⟨b, h1, h2⟩ := paired_get (i := i) (a := a) t (by simpa using e)
    exact ⟨b, by simpa using h1, h2⟩
theorem wk_none {σ2 : St} {n : Nat} (h : σ2.length = n) : Wk (List.replicate n none) σ2 := by
  refine ⟨by rw [h, List.length_replicate], fun i v e => ?_⟩
  rw [List.getElem?_replicate] at e
  split at e <;> cases e
theorem mul64 {i j : Int} (h1 : -18446744073709551616 < i) (h2 : i < 18446744073709551616) (h3 : -18446744073709551616 < j) (h4 : j < 18446744073709551616) : CMulB i j := by
  have e : (2 : Nat) ^ 64 = 18446744073709551616 := by decide
  refine ⟨64, by decide, ?_, ?_⟩
  · show i.natAbs < 2 ^ 64
    omega
  · show j.natAbs < 2 ^ 64
    omega
theorem div64 {i j : Int} (h1 : 0 < j) (h2 : j < 18446744073709551616) : CDivP i j := by
  have e : (2 : Nat) ^ 64 = 18446744073709551616 := by decide
  refine ⟨h1, Bits.mono (n := 64) ?_ (by decide)⟩
  show j.natAbs < 2 ^ 64
  omega
theorem paired_snoc {α β : Type} {R : α -> β -> Prop} {as : List α} {bs : List β} {a : α} {b : β} (h : Paired R as bs) (r : R a b) : Paired R (as ++ [a]) (bs ++ [b]) := Paired.snoc h r
theorem kt_int {K : PySem.W.Frag} : PySem.W.kitOne K (.type "int") (.type "int") = some true := by rfl
theorem kt_bool {K : PySem.W.Frag} : PySem.W.kitOne K (.type "int") (.type "bool") = some false := by kernel_rfl
def spGcd : Sp := fun vs H Q _ => ∃ a b : Int, vs = [.int a, .int b] /\ Q (.int (Int.gcd a b)) H
end Mw
namespace L2
open PySem PySem.Spec PyProof.Rows
def tJoin (t : TS) : TS := fun D σ H => ∃ J : St -> Hp -> Prop, t { D with nx := J } σ H /\ ∀ σ' H', J σ' H' -> D.nx σ' H'
theorem ps_join {X : Cx} {st : Stmt} {t : TS} (h : PS X st t) : PS X st (tJoin t) := fun pins s σ H D I ⟨J, h1, h2⟩ => thn (h pins s σ H _ I h1) fun f s' q => by
  cases f with
  | next =>
    obtain ⟨σ', H', I', j⟩ := q
    exact ⟨σ', H', I', h2 σ' H' j⟩
  | brk => exact q
  | cont => exact q
  | ret u => exact q
end L2
namespace L2
open PySem PySem.Spec PyProof.Rows
def SpInit (C : Addr) (sp : Sp) : Sp := fun vs H Q E => ∃ (x dx : Addr) (us : List V) (H1 : Hp), vs = .ref x :: us /\ H1 x = none /\ H1 dx = none /\ dx ≠ x /\ H = upd (upd H1 dx (.own x)) x (.ins C dx []) /\ sp us H1 (fun v H2 => v = .ref x -> Q .non H2) E
def SpMono (sp : Sp) : Prop := ∀ vs H (Q Q' : VK) E, (∀ v H, Q v H -> Q' v H) -> sp vs H Q E -> sp vs H Q' E
structure NCal (P : Program) (w : World) (K : PySem.W.Frag) (mg : Str -> Option Value) (base : Heap) (k : Nat) (x : Str) (ps : List Str) (sp : Sp) : Prop where
  ex : ∃ C f fd, Mk K C f /\ mg x = some (.ref C) /\ FnOk P w K mg base (CXE P w) k f fd ps (SpInit C sp) /\ Binds K fd ps []
  mono : SpMono sp
section
variable {X : Cx} {k : Nat} {f C : Addr} {fd : FuncData} {ps : List Str} {sp : Sp} {G : St -> XK} {Kd : Addr -> Prop} {x m : Str} {p pos apos : Pos} {e o : Expr} {es : List Expr} {ta : TE} {t : TA}
theorem run_makeG {pins : List (Addr × Obj)} {σ : St} {H : Hp} {s : Shared} {Q : VK} {us : List Value} {vs : List V} (M : Mk X.K C f) (F : FnOk X.prog X.w X.K X.mg X.base (CXE X.prog X.w) k f fd ps (SpInit C sp)) (mo : SpMono sp) (hr : Room (k + 1) X.A) (hb : Binds X.K fd ps [])
    (hx : PassG (CXE X.prog X.w) X G) (I : Inv X pins σ H s) (r : Vals vs us) (h : sp vs H Q (G σ)) : wpAny (model X.prog X.w) X.A (call (.ref C) us) (EP X pins σ Q) X.xe s := by
  have hq : SpInit C sp (V.ref (s.heap.objs.size + 1) :: vs) (upd (upd H s.heap.objs.size (.own (s.heap.objs.size + 1))) (s.heap.objs.size + 1) (.ins C s.heap.objs.size [])) (fun v H2 => v = .non /\ Q (.ref (s.heap.objs.size + 1)) H2) (G σ) :=
    ⟨s.heap.objs.size + 1, s.heap.objs.size, vs, H, rfl, I.hok.fresh (Nat.le_succ _), I.hok.fresh (Nat.le_refl _), Nat.ne_of_lt (Nat.lt_succ_self _), rfl, mo _ _ _ _ _ (fun v H2 q e => ⟨rfl, by rw [<- e]; exact q⟩) h⟩
  have I2 := Inv.made (C := C) I
  have r2 : Vals (V.ref (s.heap.objs.size + 1) :: vs) (Value.ref (s.heap.objs.size + 1) :: us) := .cons rfl r
  have hl : (Value.ref (s.heap.objs.size + 1) :: us ++ []).length = ps.length := by
    have e := r2.length
    rw [F.len _ _ _ _ hq] at e
    rw [List.append_nil]; exact e.symm
  have hb2 := hb _ (Value.ref (s.heap.objs.size + 1) :: us) I2.kIn hl
  rw [List.append_nil] at hb2
  refine wpAny_call (make_map (f := f) I.kIn M.makes M.init (beq_iff_eq.mp M.fn) (codeAny_mono (F.run _ X.stack _ _ ⟨Value.ref (s.heap.objs.size + 1) :: us, []⟩ (Value.ref (s.heap.objs.size + 1) :: us) _ _ (G σ) (hr.make C us [])
    (I2.env0.make C us []) hb2 r2 hq) fun r s' hq' => ?_))
  cases r with
  | error e => exact hx pins σ _ _ e s' I2 hq'
  | ok fl =>
    cases fl with
    | ret u =>
      obtain ⟨v, H', I3, rv, ev, q3⟩ := I2.after hq'
      subst ev
      exact ⟨rv, ⟨V.ref (s.heap.objs.size + 1), H', I3, rfl, q3⟩⟩
    | next => exact False.elim hq'
    | brk => exact False.elim hq'
    | cont => exact False.elim hq'
theorem pe_newG (c : NCal X.prog X.w X.K X.mg X.base k x ps sp) (hr : Room (k + 1) X.A) (hg : Gl X x) (hx : PassG (CXE X.prog X.w) X G)
    (ha : PA X (e :: es) t) (hdb : (x == ("__debug__" : Str)) = false := by decide) (he : starEach (e :: es) X.env = (false, eval e X.env) :: starEach es X.env := by rfl) (hpl : (backTo pos (starEach es X.env)).any (·.1) = false := by rfl) :
    PE X (.Call (.Name x p) (e :: es) [] pos) (tCallG sp [] G t) := by
  obtain ⟨⟨C, f, fd, M, hm, F, hb⟩, mo⟩ := c
  intro pins s σ H Q I h
  refine wpAny_Call_Name_kw (ld_glob I hg hm ?_ hdb)
  refine PySem.W.callWith_K (h₀ := X.base) I.ok.mod.kin M.kp (thn (ha pos pins s σ H _ I h) fun us s1 ⟨vs, H1, I1, r, q⟩ => ⟨I1.kIn, ?_⟩) he hpl
  exact run_makeG M F mo hr hb hx I1 r (by have q2 : sp (vs ++ []) H1 Q (G σ) := q; rw [List.append_nil] at q2; exact q2)
end
theorem comp_range {lo : Int} {n : Nat} {fr : List (Option Nat)} {g : TG} {tc : TT} {te : TE} {D : Addr} {σ : St} {H1 : Hp} {Q : VK} (Pv : Nat -> List V -> Hp -> Prop) (h0 : Pv 0 [] (upd H1 D (.lst [])))
    (hD : ∀ i ys H, i <= n -> Pv i ys H -> H D = some (.lst ys) /\ ys.length <= i) (hn : n <= sizeLine)
    (hs : ∀ i ys H, i < n -> Pv i ys H -> g (.int (lo + i)) (carry fr σ) H fun σ2 H2 => Wk (carry fr σ) σ2 /\ tc σ2 H2 fun b H3 => if b = true then te σ2 H3 fun y H4 => H4 D = some (.lst ys) /\ Pv (i + 1) (ys ++ [y]) (upd H4 D (.lst (ys ++ [y]))) else Pv (i + 1) ys H3)
    (hd : ∀ ys H, Pv n ys H -> Q (.ref D) H) : tTurns fr g tc te D (Itr lo n) σ H1 Q := by
  refine comp_seq (n := n) Pv h0 hD (fun i ys H hi p => hi) (fun ys H p => Nat.le_refl _) hn (fun i ys H x H' hi p y => ?_) hd
  obtain ⟨e, y⟩ := y
  subst e y
  exact hs i ys _ hi p
structure ClsAt (K : PySem.W.Frag) (mg : Str -> Option Value) (x : Str) (C : Addr) : Prop where
  cl : Cls K C
  makes : PySem.W.makesIn K C = true
  kp : PySem.W.keepIn K (.ref C) = true
  g : mg x = some (.ref C)
structure MethAt (K : PySem.W.Frag) (C : Addr) (m qual : Str) (st : Stmt) : Prop where
  ex : ∃ f fd, Meth K C m f /\ Fun K m qual st f fd
structure ExR (K : PySem.W.Frag) (mg : Str -> Option Value) (x : Str) (C : Addr) : Prop where
  c : ExcC K C
  g : mg x = some (.ref C)
def BindQ (x qual : Str) (st : Stmt) (ps : List Str) : Prop := ∀ (kV doc pm : Value) (an : Option Addr) (cdv ct : Value) (us : List Value), us.length = ps.length -> bindArgs (PySem.W.fnOf x qual (defArgs st) (defBody st) (defScope st) .none kV doc pm an cdv ct) ⟨us, []⟩ = pure (ps.zip us)
section
variable {P : Program} {w : World} {K : PySem.W.Frag} {mg : Str -> Option Value} {base : Heap} {C : Addr} {x m qual : Str} {st : Stmt} {ps : List Str} {k : Nat} {sp : Sp}
theorem ClsAt.new (c : ClsAt K mg x C) (h : MethAt K C "__init__" qual st) (hb : BindQ "__init__" qual st ps) (mo : SpMono sp) (ok : ∀ f fd, Fun K "__init__" qual st f fd -> FnOk P w K mg base (CXE P w) k f fd ps (SpInit C sp)) : NCal P w K mg base k x ps sp := by
  obtain ⟨f, fd, M, F⟩ := h.ex
  exact ⟨⟨C, f, fd, ⟨c.makes, M.at_, M.fn, c.kp⟩, c.g, ok f fd F, F.binds hb⟩, mo⟩
end
end L2
namespace L2
open PySem PySem.Spec PyProof.Rows
class LamPos where
  l : Nat
  c : Nat
end L2
namespace Mw
open PySem L2
def cellF (ns : List Int) (k : Nat) : Int := ns.getD k 0
theorem at_cell {ns : List Int} {k : Int} (h0 : 0 <= k) (h : k < (ns.length : Int)) : atI (ns.map V.int) k = some (.int (cellF ns k.toNat)) := by
  have e : k = (k.toNat : Int) := by omega
  have hk : k.toNat < ns.length := by omega
  rw [e, Int.toNat_natCast]
  refine atI_nat ?_
  rw [List.getElem?_map, List.getElem?_eq_getElem hk]
  unfold cellF
  simp [hk]
theorem cell_out {ns : List Int} {k : Int} (h0 : 0 <= k) (h : ¬ k < (ns.length : Int)) : cellF ns k.toNat = 0 := by
  unfold cellF
  rw [List.getD_eq_getElem?_getD, List.getElem?_eq_none (by omega)]; rfl
def spCell (K : PySem.W.Frag) : Sp := fun vs H Q _ => ∃ (a : Addr) (ns : List Int) (k : Int), vs = [.ref a, .int k] /\ SqL K H a (ns.map V.int) /\ 0 <= k /\ Q (.int (cellF ns k.toNat)) H
def RowsAt (K : PySem.W.Frag) (H : Hp) (as : List Addr) (rs : List (List Int × Int)) : Prop := Paired (fun a r => ∃ p, SqT K H a [.ref p, .int r.2] /\ SqT K H p (r.1.map V.int)) as rs
theorem RowsAt.same {K : PySem.W.Frag} {H H' : Hp} {as : List Addr} {rs : List (List Int × Int)} (e : Same H H') (h : RowsAt K H as rs) : RowsAt K H' as rs := Paired.mapP h fun _ _ ⟨p, q1, q2⟩ => ⟨p, e.seqT q1, e.seqT q2⟩
def cutL {α : Type} (xs : List α) (lo hi : Option Int) : List α := (xs.drop (HT.sIx xs.length 0 lo)).take (HT.sIx xs.length xs.length hi - HT.sIx xs.length 0 lo)
theorem cutL_map {α : Type} (g : α -> V) (xs : List α) (lo hi : Option Int) : cutV (xs.map g) lo hi = (cutL xs lo hi).map g := by
  unfold cutV cutL
  rw [List.length_map, List.map_take, List.map_drop]
end Mw
namespace Mw
open PySem L2
variable [LamPos]
theorem iteND {c A B : Prop} [Decidable c] (h1 : ¬ c -> A) (h2 : c -> B) : if (!decide c) = true then A else B := by
  by_cases h : c
  · rw [decide_eq_true h]; exact h2 h
  · rw [decide_eq_false h]; exact h1 h
end Mw
namespace Mw
open PySem L2
variable [LamPos]
theorem iteB {b : Bool} {A B : Prop} (h1 : b = true -> A) (h2 : b = false -> B) : if b = true then A else B := by
  cases b
  · rw [if_neg (by simp)]; exact h2 rfl
  · rw [if_pos rfl]; exact h1 rfl
end Mw
namespace L2
open PySem PySem.Spec PyProof.Rows
def OffD (D : Addr) (H H' : Hp) : Prop := ∀ b o, b ≠ D -> H b = some o -> H' b = some o
theorem OffD.of {D : Addr} {H H' : Hp} (s : Same H H') : OffD D H H' := fun b o _ h => s b o h
theorem OffD.upd {D : Addr} {H : Hp} {o : HO} : OffD D H (upd H D o) := fun b u n h => by rw [upd_ne n]; exact h
section
variable {K : PySem.W.Frag} {fr : List (Option Nat)} {g : TG} {te : TE} {D : Addr} {σ : St} {H1 : Hp} {Q : VK}
theorem snoc_get {ys : List V} {z : V} {P : Nat -> V -> Prop} (h : ∀ (j : Nat) y, ys[j]? = some y -> P j y) (hz : P ys.length z) : ∀ (j : Nat) y, (ys ++ [z])[j]? = some y -> P j y := fun j y e => by
  by_cases hj : j < ys.length
  · rw [List.getElem?_append_left hj] at e; exact h j y e
  · have h2 : j = ys.length := by
      have := (List.getElem?_eq_some_iff.mp e).1
      rw [List.length_append] at this
      simp at this
      omega
    subst h2
    rw [List.getElem?_append_right (Nat.le_refl _), Nat.sub_self] at e
    have : z = y := by simpa using e
    rw [<- this]; exact hz
theorem comp_list_rel {a : Addr} {xs : List V} (Rl : Hp -> Nat -> V -> Prop) (mono : ∀ H H' i y, OffD D H H' -> Rl H i y -> Rl H' i y) (hq : SqL K H1 a xs) (hn : xs.length <= sizeLine) (hD : H1 D = none)
    (hs : ∀ (i : Nat) x H (R : VK), xs[i]? = some x -> Same H1 H -> H D ≠ none -> (∀ y H', Same H H' -> Rl H' i y -> R y H') -> g x (carry fr σ) H fun σ2 H2 => Wk (carry fr σ) σ2 /\ te σ2 H2 R)
    (q : ∀ ys H', Same H1 H' -> H' D = some (.lst ys) -> ys.length = xs.length -> (∀ (j : Nat) y, ys[j]? = some y -> Rl H' j y) -> Q (.ref D) H') : tTurns fr g tYes te D (Itl K a) σ H1 Q := by
  refine comp_list (xs := xs) (fun i ys H => Same H1 H /\ H D = some (.lst ys) /\ ys.length = i /\ ∀ (j : Nat) y, ys[j]? = some y -> Rl H j y) ⟨Same.new hD _, upd_same, rfl, fun j y e => by simp at e⟩
    (fun i ys H hi ⟨_, e, p, _⟩ => ⟨e, by omega⟩) (fun i ys H hi ⟨e, _, _⟩ => e.seq hq) hn ?_ (fun ys H ⟨e1, e2, e3, e4⟩ => q ys H e1 e2 e3 e4)
  rintro i x ys H hx ⟨e1, e2, e3, e4⟩
  refine hs i x H _ hx e1 (by rw [e2]; simp) (fun y H' s r => ⟨s _ _ e2, (e1.trans s).upd_old hD, upd_same, by rw [List.length_append, e3]; rfl, ?_⟩)
  exact snoc_get (fun j u e => mono _ _ _ _ OffD.upd (mono _ _ _ _ (OffD.of s) (e4 j u e))) (by rw [e3]; exact mono _ _ _ _ OffD.upd r)
theorem comp_tup_rel {a : Addr} {xs : List V} (Rl : Hp -> Nat -> V -> Prop) (mono : ∀ H H' i y, OffD D H H' -> Rl H i y -> Rl H' i y) (hq : SqT K H1 a xs) (hn : xs.length <= sizeLine) (hD : H1 D = none)
    (hs : ∀ (i : Nat) x H (R : VK), xs[i]? = some x -> Same H1 H -> H D ≠ none -> (∀ y H', Same H H' -> Rl H' i y -> R y H') -> g x (carry fr σ) H fun σ2 H2 => Wk (carry fr σ) σ2 /\ te σ2 H2 R)
    (q : ∀ ys H', Same H1 H' -> H' D = some (.lst ys) -> ys.length = xs.length -> (∀ (j : Nat) y, ys[j]? = some y -> Rl H' j y) -> Q (.ref D) H') : tTurns fr g tYes te D (Itt K a) σ H1 Q := by
  refine comp_tup (xs := xs) (fun i ys H => Same H1 H /\ H D = some (.lst ys) /\ ys.length = i /\ ∀ (j : Nat) y, ys[j]? = some y -> Rl H j y) ⟨Same.new hD _, upd_same, rfl, fun j y e => by simp at e⟩
    (fun i ys H hi ⟨_, e, p, _⟩ => ⟨e, by omega⟩) (fun i ys H hi ⟨e, _, _⟩ => e.seqT hq) hn ?_ (fun ys H ⟨e1, e2, e3, e4⟩ => q ys H e1 e2 e3 e4)
  rintro i x ys H hx ⟨e1, e2, e3, e4⟩
  refine hs i x H _ hx e1 (by rw [e2]; simp) (fun y H' s r => ⟨s _ _ e2, (e1.trans s).upd_old hD, upd_same, by rw [List.length_append, e3]; rfl, ?_⟩)
  exact snoc_get (fun j u e => mono _ _ _ _ OffD.upd (mono _ _ _ _ (OffD.of s) (e4 j u e))) (by rw [e3]; exact mono _ _ _ _ OffD.upd r)
theorem comp_range_rel {lo : Int} {n : Nat} (Rl : Hp -> Nat -> V -> Prop) (mono : ∀ H H' i y, OffD D H H' -> Rl H i y -> Rl H' i y) (hn : n <= sizeLine) (hD : H1 D = none)
    (hs : ∀ (i : Nat) H (R : VK), i < n -> Same H1 H -> H D ≠ none -> (∀ y H', Same H H' -> Rl H' i y -> R y H') -> g (.int (lo + i)) (carry fr σ) H fun σ2 H2 => Wk (carry fr σ) σ2 /\ te σ2 H2 R)
    (q : ∀ ys H', Same H1 H' -> H' D = some (.lst ys) -> ys.length = n -> (∀ (j : Nat) y, ys[j]? = some y -> Rl H' j y) -> Q (.ref D) H') : tTurns fr g tYes te D (Itr lo n) σ H1 Q := by
  refine comp_range (n := n) (fun i ys H => Same H1 H /\ H D = some (.lst ys) /\ ys.length = i /\ ∀ (j : Nat) y, ys[j]? = some y -> Rl H j y) ⟨Same.new hD _, upd_same, rfl, fun j y e => by simp at e⟩
    (fun i ys H hi ⟨_, e, p, _⟩ => ⟨e, by omega⟩) hn ?_ (fun ys H ⟨e1, e2, e3, e4⟩ => q ys H e1 e2 e3 e4)
  rintro i ys H hi ⟨e1, e2, e3, e4⟩
  refine hs i H _ hi e1 (by rw [e2]; simp) (fun y H' s r => ⟨s _ _ e2, (e1.trans s).upd_old hD, upd_same, by rw [List.length_append, e3]; rfl, ?_⟩)
  exact snoc_get (fun j u e => mono _ _ _ _ OffD.upd (mono _ _ _ _ (OffD.of s) (e4 j u e))) (by rw [e3]; exact mono _ _ _ _ OffD.upd r)
end
theorem ys_map {α : Type} {g : α -> V} {rs : List α} {ys : List V} (hl : ys.length = rs.length) (h : ∀ (j : Nat) y r, ys[j]? = some y -> rs[j]? = some r -> y = g r) : ys = rs.map g := by
  refine List.ext_getElem? fun j => ?_
  rw [List.getElem?_map]
  by_cases hj : j < ys.length
  · rw [List.getElem?_eq_getElem hj, List.getElem?_eq_getElem (by omega)]
    exact congrArg some (h j _ _ (List.getElem?_eq_getElem hj) (List.getElem?_eq_getElem (by omega)))
  · rw [List.getElem?_eq_none (by omega), List.getElem?_eq_none (by omega)]; rfl
theorem wk1 {σ : St} {v : V} {n : Nat} {w : V} (h : σ[n]? = some (some w)) : Wk (carry [none, some n] σ) [some v, some w] := by
  refine ⟨rfl, fun k u e => ?_⟩
  have e0 : carry [none, some n] σ = [none, some w] := by simp [carry, h]
  rw [e0] at e
  match k, e with
  | 0, e => simp at e
  | 1, e => exact e
  | k + 2, e => simp at e
section
variable {X : Cx} {scope : Scope} {NB : List Str} {fr : List (Option Nat)} {elt tg iter : Expr} {ifs : List Expr} {pos : Pos} {wi : TI} {g : TG} {tc : TT} {te : TE}
theorem pe_compN (hcalm : X.calm = true) (B : BlkOk X.env.scope X.N scope NB fr) (hi : PI X tg iter wi) (hg : ∀ C s H fp, PG (blk X scope NB C s H fp) tg g) (hif : ∀ C s H fp, PIfs (blk X scope NB C s H fp) ifs tc) (he : ∀ C s H fp, PE (blk X scope NB C s H fp) elt te)
    (hs : ∀ x, foldedSetIterable iter X.env x = pure x := by intro _; rfl) : PE X (.ListComp elt [⟨tg, iter, ifs, 0⟩] scope pos) (tComp fr wi g tc te) := pe_comp (sc := X.env.scope) (N := X.N) hcalm B hi hg hif he hs rfl rfl
end
section
variable {X : Cx} {K : PySem.W.Frag} {tg l : Expr} {tl ta : TE} {e : Expr} {f : Str} {pos : Pos}
theorem pi_listK (hK : X.K = K) (hl : PE X l tl) : PI X tg l (iList K tl) := by subst hK; exact pi_list hl
theorem pi_tupK (hK : X.K = K) (hl : PE X l tl) : PI X tg l (iTup K tl) := by subst hK; exact pi_tup hl
end
end L2
namespace L2
open PySem PySem.Spec PyProof.Rows
section
variable {K : PySem.W.Frag} {fr : List (Option Nat)} {g : TG} {tc : TT} {te : TE} {D : Addr} {σ : St} {H1 : Hp} {Q : VK}
def picked (p : Nat -> Bool) (f : Nat -> V) (i : Nat) : List V := ((List.range i).filter p).map f
theorem picked_succ (p : Nat -> Bool) (f : Nat -> V) (i : Nat) : picked p f (i + 1) = if p i = true then picked p f i ++ [f i] else picked p f i := by
  unfold picked
  rw [List.range_succ, List.filter_append, List.map_append]
  by_cases h : p i = true
  · rw [if_pos h]; simp [h]
  · rw [if_neg h]; simp [h]
theorem picked_len (p : Nat -> Bool) (f : Nat -> V) (i : Nat) : (picked p f i).length <= i := by
  unfold picked
  rw [List.length_map]
  exact Nat.le_trans (List.length_filter_le _ _) (by rw [List.length_range]; exact Nat.le_refl _)
theorem comp_list_filter {a : Addr} {xs : List V} (p : Nat -> Bool) (f : Nat -> V) (hq : SqL K H1 a xs) (hn : xs.length <= sizeLine) (hD : H1 D = none)
    (hs : ∀ (i : Nat) x H (R : VK) (R' : Hp -> Prop), xs[i]? = some x -> Same H1 H -> (p i = true -> ∀ H', Same H H' -> R (f i) H') -> (p i = false -> ∀ H', Same H H' -> R' H') -> g x (carry fr σ) H fun σ2 H2 => Wk (carry fr σ) σ2 /\ tc σ2 H2 fun b H3 => if b = true then te σ2 H3 R else R' H3)
    (q : ∀ H', Same H1 H' -> H' D = some (.lst (picked p f xs.length)) -> Q (.ref D) H') : tTurns fr g tc te D (Itl K a) σ H1 Q := by
  refine comp_list (xs := xs) (fun i ys H => Same H1 H /\ H D = some (.lst ys) /\ ys = picked p f i) ⟨Same.new hD _, upd_same, rfl⟩
    (fun i ys H hi ⟨_, e, z⟩ => ⟨e, by rw [z]; exact picked_len p f i⟩) (fun i ys H hi ⟨e, _, _⟩ => e.seq hq) hn ?_ (fun ys H ⟨e1, e2, e3⟩ => q H e1 (by rw [<- e3]; exact e2))
  rintro i x ys H hi ⟨e1, e2, e3⟩
  refine hs i x H _ _ hi e1 (fun hp H' s => ⟨s _ _ e2, (e1.trans s).upd_old hD, upd_same, ?_⟩) (fun hp H' s => ⟨e1.trans s, s _ _ e2, ?_⟩)
  · rw [picked_succ, if_pos hp, e3]
  · rw [picked_succ, if_neg (by rw [hp]; simp), e3]
end
end L2
namespace L2
open PySem PySem.Spec PyProof.Rows
section
variable {X : Cx} {K : PySem.W.Frag}
theorem op_inK (hK : X.K = K) : OpR X (compareOp .In) (rIn K false) := by subst hK; exact op_in_seq
theorem op_notInK (hK : X.K = K) : OpR X (compareOp .NotIn) (rIn K true) := by subst hK; exact op_notIn_seq
end
end L2
namespace Mw
open PySem L2
variable [LamPos]
theorem refs_of {P : Nat -> Addr -> Prop} : ∀ {ys : List V}, (∀ (j : Nat) y, ys[j]? = some y -> ∃ b, y = .ref b /\ P j b) -> ∃ bs : List Addr, ys = bs.map V.ref /\ ∀ (j : Nat) b, bs[j]? = some b -> P j b := by
  intro ys
  induction ys generalizing P with
  | nil => intro _; exact ⟨[], rfl, fun j b e => by simp at e⟩
  | cons y ys ih =>
    intro h
    obtain ⟨b, e, hb⟩ := h 0 y rfl
    obtain ⟨bs, e2, h2⟩ := ih (P := fun j b => P (j + 1) b) fun j y hy => h (j + 1) y (by simpa using hy)
    refine ⟨b :: bs, by rw [e, e2]; rfl, fun j c hc => ?_⟩
    cases j with
    | zero => have : b = c := by simpa using hc
              rw [<- this]; exact hb
    | succ j => exact h2 j c (by simpa using hc)
end Mw
namespace L2
open PySem PySem.Spec PyProof.Rows
structure ExcA (K : PySem.W.Frag) (C : Addr) : Prop where
  ga : PySem.W.findIn K (.ref C) "__getattribute__" = some (some (.builtin "BaseException.__getattribute__"))
  gg : PySem.W.findIn K (.ref C) "__getattr__" = some none
  ca : PySem.W.findIn K (.ref C) "__class__" = some (some (.builtin "object.__class__"))
  sp : PySem.W.specialIn K (.builtin "object.__class__") "__get__" = some (some (.builtin "getset_descriptor.__get__"))
  tk : PySem.W.takesIn K (.builtin "object.__class__") = some true
  ob : PySem.W.mroIn K C (.type "object") = some true
  be : PySem.W.mroIn K C (.type "BaseException") = some true
section
variable {prog : Program} {w : World} {A : Around} {E : Value -> Shared -> Prop} {s : Shared} {K : PySem.W.Frag} {x C : Addr}
open PySem.W Builtin Builtin.ObjectAttr Builtin.Getset_descriptor in
theorem exc_class_get {R : Result -> Shared -> Prop} {tp : Value} (X : K.In s.heap) (L : Looks (model prog w) s.heap (typeOf (.ref x)) (.ref C)) (hm : mroIn K C (.type "object") = some true)
    (h : R (.ok (.ret (.ref C))) s) : codeAny (model prog w) A (.call (.builtin "getset_descriptor.__get__") ⟨[.builtin "object.__class__", .ref x, tp], []⟩) R s := by
  obtain ⟨hp, g, dr, t, os⟩ := s
  have L1 := looks_mroIn (M := model prog w) X hm
  refine (codeAny_call_builtin KF.slot_gs.plain KF.entry_gs (KF.slot_gs.check _ _ _ _ _ _ _ _ KF.type_class (KF.args_gs _ _ _) ?_))
  unfold Builtin.«getset_descriptor.__get__» descrGet
  rw [dga_obj]
  refine (wpAny_bind (wpAny_pure ?_))
  unfold descrGetter descrCheckInstance descrNameAndClass isInstance
  simp only [KF.owner_class]
  repeat lk
  refine ⟨Code.quiet_builtin _ (by decide +kernel), (codeAny_builtin KF.entry_class ?_)⟩
  unfold Builtin.«object.__class__» shownTypeOf
  repeat lk
  exact h
open PySem.W in
theorem exc_find {M : Model} {h : Heap} (X : K.In h) (q : ExcA K C) : Looks M h (Builtin.ObjectAttr.find (.ref x) (.ref C) "__class__") (.bind (.builtin "getset_descriptor.__get__") (.builtin "object.__class__")) := by
  have L1 := looks_findIn (M := M) X q.ca
  have L2 := looks_specialIn (M := M) X q.sp
  have L3 := looks_takesIn (M := M) X q.tk
  have L4 : Looks M h (Builtin.ObjectAttr.dataDescriptor? (some (.builtin "object.__class__")) (some (.builtin "getset_descriptor.__get__"))) (some (.builtin "getset_descriptor.__get__", .builtin "object.__class__")) := L3.andThen .now
  exact L1.andThen (L2.andThen (L4.andThen (Looks.tag .now)))
open PySem.W in
theorem exc_ga_body {tk : Tok} {Q : Fin -> Shared -> Prop} (X : K.In s.heap) (L : Looks (model prog w) s.heap (typeOf (.ref x)) (.ref C)) (q : ExcA K C) (h : Q (.done (.ret (.ref C))) s) :
    wpAny (model prog w) A (Builtin.«object.__getattribute__» ⟨[.ref x, .str "__class__" tk], []⟩) Q E s := by
  obtain ⟨hp, g, d, t, os⟩ := s
  have F1 := exc_find (M := model prog w) (x := x) X q
  unfold Builtin.«object.__getattribute__»
  refine wpAny_bind (wpAny_of_eq (a := (Value.ref x, [Value.str "__class__" tk])) (by rfl) ?_)
  refine wpAny_bind (wpAny_of_eq (a := ("__class__" : Str)) (by rfl) ?_)
  refine wpAny_bind (L.at (wpAny_bind (F1.at ?_)))
  show wpAny _ _ (Builtin.ObjectAttr.bindTo (.builtin "getset_descriptor.__get__") (.builtin "object.__class__") (.ref x) (.ref C)) _ _ _
  unfold Builtin.ObjectAttr.bindTo
  refine wpAny_bind (wpAny_holding (wpAny_call (exc_class_get X L q.ob ?_)))
  exact wpAny_pure h
theorem exc_check {M : Model} {nameV : Value} {Q : Unit -> Shared -> Prop} (L : PySem.W.Looks M s.heap (typeOf (.ref x)) (.ref C)) (LB : PySem.W.Looks M s.heap (isSubtype (.ref C) (.type "BaseException")) true) (hq : Q () s) :
    wpAny M A (checkBuiltinCall "BaseException.__getattribute__" ⟨[.ref x, nameV], []⟩) Q E s := by
  obtain ⟨hp, g, d, t, os⟩ := s
  have hk : builtinKind "BaseException.__getattribute__" = some .slot := by decide +kernel
  have hsplit : splitId "BaseException.__getattribute__" = some ("BaseException", "__getattribute__") := by decide +kernel
  have ha := F.args_bexc_ga (.ref x) nameV
  simp only [checkBuiltinCall, hk, hsplit]
  refine wpAny_bind ((L.andThen LB : PySem.W.Looks M hp (isInstance (.ref x) (.type "BaseException")) true).at ?_)
  repeat (any_goals (first | assumption | wp_step))
open PySem.W in
theorem exc_class {Q : Option Value -> Shared -> Prop} (X : K.In s.heap) (L : Looks (model prog w) s.heap (typeOf (.ref x)) (.ref C)) (q : ExcA K C) (h : Q (some (.ref C)) { s with toks := s.toks + 1 }) : wpAny (model prog w) A (getAttr? (.ref x) "__class__") Q E s := by
  obtain ⟨hp, g, d, t, os⟩ := s
  have L1 := looks_findIn (M := model prog w) X q.ga
  have L2 := looks_findIn (M := model prog w) X q.gg
  have L3 := looks_mroIn (M := model prog w) X q.be
  unfold getAttr? getAttrBy? getAttrBy
  refine wpAny_bind (wpAny_mkText (wpAny_bind (wpAny_attempt (wpAny_holding (wpAny_bind (L.at (wpAny_bind (L1.at ?_))))))))
  have e : (onTheHeap (Value.ref C) && Value.builtin "BaseException.__getattribute__" == Value.builtin "object.__getattribute__") = false := by
    have : (Value.builtin "BaseException.__getattribute__" == Value.builtin "object.__getattribute__") = false := by decide +kernel
    rw [this]; rfl
  dsimp only
  rw [e, if_neg Bool.false_ne_true]
  unfold getAttrByItsOwn hookBefore
  refine wpAny_bind ?_
  show wpAny _ _ (typeLookup (.ref C) "__getattr__") _ _ _
  refine L2.at ?_
  refine wpAny_bind (wpAny_attempt (wpAny_holding ?_))
  show wpAny _ _ (boundAndCalled (.builtin "BaseException.__getattribute__") (.ref x) (.str "__class__" t)) _ _ _
  unfold boundAndCalled
  refine wpAny_bind (wpAny_of_eq (F.attr_ValueError.ga.bind (.ref x)) ?_)
  show wpAny _ _ (call (.builtin "BaseException.__getattribute__") [.ref x, .str "__class__" t]) _ _ _
  refine wpAny_call (codeAny_call_builtin F.attr_ValueError.ga.plain F.entry_bexc_ga (exc_check L L3 (exc_ga_body X L q ?_)))
  exact wpAny_pure (wpAny_pure h)
theorem kitx_exc (q : ExcA K C) (hc : (PySem.W.clsIn K C).isSome = true) : PySem.W.KitX K (.ref x) (.ref C) (fun h => ∃ o, h.get? x = some o /\ o.cls = .ref C) where
  ty := fun M h _ ⟨o, e, c⟩ => c ▸ (PySem.W.Looks.ld e).andThen .now
  it := fun M h X _ => by
    obtain ⟨cd, hcd⟩ := Option.isSome_iff_exists.mp hc
    unfold PySem.W.clsIn at hcd
    split at hcd
    · rename_i ho
      intro A' Q' E' s' k z
      unfold isType loadHead
      exact wpAny_bind (wpAny_loadPart (k _ _ (X _ _ ho)) (wpAny_pure z))
    · cases hcd
  ne := fun h tp dd its n sl X htp => by
    obtain ⟨cd, hcd⟩ := Option.isSome_iff_exists.mp hc
    refine Bool.eq_false_iff.mpr fun z => ?_
    have e : C = tp := Value.ref.inj (beq_iff_eq.mp z)
    subst e
    unfold PySem.W.clsIn at hcd
    split at hcd
    · rename_i ho
      have z2 := (X _ _ ho).symm.trans htp
      cases z2
    · cases hcd
  ca := fun X ⟨o, e, c⟩ k => exc_class X (c ▸ (PySem.W.Looks.ld e).andThen .now) q k
end
section
variable {X : Cx} {K : PySem.W.Frag}
theorem mro_cls {K : PySem.W.Frag} {C : Addr} {b : Value} {r : Bool} (e : PySem.W.mroIn K C b = some r) : (PySem.W.clsIn K C).isSome = true := by
  obtain ⟨cd, a, _⟩ := Option.bind_eq_some_iff.mp e
  rw [a]; rfl
end
end L2
namespace L2
open PySem PySem.Spec PyProof.Rows
section
variable {prog : Program} {w : World} {A : Around} {E : Value -> Shared -> Prop} {s : Shared}
theorem draw_lst {it l : Addr} {its : Array Value} (hne : l ≠ it) : ∀ (n i : Nat) (s : Shared) (Q : List Value -> Shared -> Prop), s.heap.IsListIter it l i -> s.heap.IsList l its -> i + n <= its.size ->
    (∀ g, g.IsListIter it l (i + n) -> Heap.SameBut it s.heap g -> Q ((its.toList.drop i).take n) { s with heap := g }) -> wpAny (model prog w) A (draw (.ref it) n) Q E s
  | 0, i, s, Q, hit, _, _, hQ => by
    show wpAny _ _ (pure []) Q E s
    exact wpAny_pure (by simpa using hQ s.heap hit (Heap.SameBut.refl ..))
  | n + 1, i, s, Q, hit, hl, hle, hQ => by
    have hlt : i < its.size := by omega
    show wpAny _ _ (pyNext (.ref it) >>= _) Q E s
    refine wpAny_bind (wpAny_pyNext_list_item hit hl (x := its[i]) (by simp [hlt]) fun g1 j1 e1 => ?_)
    refine wpAny_bind (wpAny_holding (draw_lst hne n (i + 1) _ _ j1 (hl.extBut e1.extBut hne) (by omega) fun g2 j2 e2 => wpAny_pure ?_))
    have hd : its.toList.drop i = its[i] :: its.toList.drop (i + 1) := by simp [List.drop_eq_getElem_cons, hlt]
    have z := hQ g2 (by rw [show i + (n + 1) = i + 1 + n by omega]; exact j2) (e1.trans e2)
    rw [hd, List.take_succ_cons] at z
    exact z
theorem unpack_lst {l : Addr} {its : Array Value} {targets : List (Bool × (Value -> Sem Unit))} {Q : Unit -> Shared -> Prop} (hh : A.handled = none) (hl : s.heap.IsList l its) (hn : targets.length = its.size) (hstar : targets.findIdx? (·.1) = none)
    (h : ∀ g, Heap.ExtBut s.heap.objs.size s.heap g -> wpAny (model prog w) A (assignInOrder (targets.map (·.2)) its.toList) Q E { s with heap := g }) : wpAny (model prog w) A (unpack (.ref l) targets) Q E s := by
  have hlt : l ≠ s.heap.objs.size := by obtain ⟨o, ho, _⟩ := hl; exact Nat.ne_of_lt (Heap.lt_size ho)
  unfold unpack
  rw [hn, hstar]
  refine wpAny_bind (wpAny_holding ?_)
  unfold unpackItems
  refine wpAny_bind ?_
  unfold notIterableAtAll
  refine wpAny_bind (wpAny_specialOf hl.typeIs slot_list_iter.lookup (wpAny_pure ?_))
  simp only [Bool.false_eq_true, if_false]
  refine wpAny_bind (wpAny_holding (wpAny_pyIter_list hl ?_))
  refine wpAny_bind (wpAny_holding (draw_lst hlt its.size 0 _ _ ⟨_, Heap.get?_push_size _ rfl, rfl, rfl⟩ (hl.push _) (by omega) fun g1 j1 e1 => ?_))
  have hall : List.take its.size (List.drop 0 its.toList) = its.toList := by
    rw [List.drop_zero]; exact List.take_of_length_le (by simp)
  rw [hall, if_neg (by simp)]
  refine wpAny_bind (wpAny_holding (wpAny_pyNext_list_end hh j1 ((hl.push _).extBut e1.extBut hlt) (by simp) fun g2 e2 => ?_))
  simp only [Option.isSome_none, Bool.false_eq_true, if_false]
  exact wpAny_pure (h g2 fun b o hb e => e2 b o hb (e1.extBut b o hb (Heap.get?_push_of_some _ e)))
end
def gLst (K : PySem.W.Frag) (n : Nat) (t : TGs) : TG := fun v σ H Q => ∃ a xs, v = .ref a /\ SqL K H a xs /\ xs.length = n /\ t xs σ H Q
theorem pg_lstK {X : Cx} {K : PySem.W.Frag} {pos : Pos} {es : List Expr} {k : Nat} {t : TGs} {n : Nat} (hK : X.K = K) (hc : X.calm = true) (h : PGs X es t)
    (hn : (assignEach es X.env).length = n := by rfl) (hst : (assignEach es X.env).findIdx? (·.1) = none := by rfl) : PG X (.Tuple es k pos) (gLst K n t) := by
  subst hK
  intro pins s σ H v u Q I r hw
  obtain ⟨a, xs, e1, hq, hl, hw⟩ := hw
  subst e1
  cases r
  obtain ⟨its, rv, p, hz⟩ := I.list hq
  rw [PyProof.Rows.assign_Tuple]
  refine wpAny_bind (wpAny_standAt (unpack_lst (I.ok.hd hc) p.isList (by simp [hn, <- hl, rv.length]) hst fun g hx => ?_))
  have I1 : Inv X pins σ H { s with heap := g } := I.kept (t' := s.toks) fun b o e => hx b o (Nat.ne_of_lt (Heap.lt_size e)) e
  exact h pins _ σ H xs _ Q I1 (by simpa using rv) hw
end L2
namespace L2
open PySem PySem.Spec PyProof.Rows
theorem DefAt.calX {P : Program} {w : World} {K : PySem.W.Frag} {mg : Str -> Option Value} {base h : Heap} {x : Str} {st : Stmt} {ps : List Str} {k : Nat} {sp : Sp} (D : DefAt K x st) (X : K.In h) (G : h.Ns mainGlobals mg) (hb : BindAt x st ps) (mk : ∀ f fd, Fun K x x st f fd -> FnOk P w K mg base (CXE P w) k f fd ps sp) : CalX P w K mg base k x ps sp := by
  obtain ⟨f, oc, od, osl, kV, doc, pm, an, cdv, ct, a, l, c, kk⟩ := D.ex
  have F := fun_mk (st := st) l c kk
  exact ⟨⟨f, _, mk f _ F, PySem.W.mg_of X G a, kk, F.binds hb⟩⟩
theorem pe_cls {X : Cx} {x : Str} {C : Addr} {pos : Pos} (hg : Gl X x) (hm : X.mg x = some (.ref C)) (hd : (x == ("__debug__" : Str)) = false := by decide) : PE X (.Name x pos) (tC (.ref C)) := pe_glob hg hm rfl hd
structure ClN (mg : Str -> Option Value) (x : Str) (C : Addr) : Prop where
  g : mg x = some (.ref C)
end L2
namespace Mw
open PySem L2
variable [LamPos]
theorem paired_of_get {α β : Type} {R : α -> β -> Prop} : ∀ {as : List α} {bs : List β}, as.length = bs.length -> (∀ (j : Nat) a b, as[j]? = some a -> bs[j]? = some b -> R a b) -> Paired R as bs
  | [], [], _, _ => .nil
  | [], _ :: _, h, _ => by simp at h
  | _ :: _, [], h, _ => by simp at h
  | a :: as, b :: bs, h, q => (.cons (q 0 a b rfl rfl) (paired_of_get (by simpa using h) fun j x y hx hy => q (j + 1) x y (by simpa using hx) (by simpa using hy)))
end Mw
namespace L2
open PySem PySem.Spec PyProof.Rows
def Deep (K : PySem.W.Frag) (H : Hp) : Nat -> V -> V -> Prop
  | 0, x, y => x = y /\ plainV x = true
  | n + 1, x, y => (x = y /\ plainV x = true) \/ ∃ a b xs ys, x = .ref a /\ y = .ref b /\ ((SqL K H a xs /\ SqL K H b ys) \/ (SqT K H a xs /\ SqT K H b ys)) /\ Paired (Deep K H n) xs ys
theorem Deep.same {K : PySem.W.Frag} {H : Hp} {n : Nat} {x : V} (h : plainV x = true) : Deep K H n x x := by
  cases n with
  | zero => exact ⟨rfl, h⟩
  | succ n => exact .inl ⟨rfl, h⟩
theorem Deep.all {K : PySem.W.Frag} {H : Hp} {n : Nat} : ∀ {xs : List V}, xs.all plainV = true -> Paired (Deep K H n) xs xs
  | [], _ => .nil
  | x :: xs, h => by
    rw [List.all_cons, Bool.and_eq_true] at h
    exact .cons (Deep.same h.1) (Deep.all h.2)
theorem all_true (k : Nat) : ((List.range k).all fun _ => true) = true := by simp
theorem Room.units8 {k : Nat} {A : Around} (r : Room k A) : A.units + 8 < cLine := by have := r.units; omega
section
variable {X : Cx} {K : PySem.W.Frag} {pins : List (Addr × Obj)} {σ : St} {H : Hp} {s : Shared}
theorem deep_vals {n : Nat} {A : Around} {xs ys : List V} {its jts : List Value} (ih : ∀ {x y : V} {u v : Value}, Deep K H n x y -> RelV x u -> RelV y v -> SeqAt.EqAt A s u v true) (p : Paired (Deep K H n) xs ys) (r1 : Vals xs its) (r2 : Vals ys jts) :
    its.length = jts.length /\ ∀ j (h1 : j < its.toArray.size) (h2 : j < jts.toArray.size), SeqAt.EqAt A s its.toArray[j] jts.toArray[j] true := by
  have l1 := r1.length
  have l2 := r2.length
  have l3 := Paired.length p
  refine ⟨by omega, fun j h1 h2 => ?_⟩
  have g1 : j < its.length := by simpa using h1
  have g2 : j < jts.length := by simpa using h2
  obtain ⟨y, hy, d⟩ := Mw.paired_get p (i := j) (a := xs[j]'(by omega)) (List.getElem?_eq_getElem (by omega))
  have ey : y = ys[j]'(by omega) := by
    rw [List.getElem?_eq_getElem (by omega)] at hy
    exact (Option.some.inj hy).symm
  subst ey
  exact ih d (vals_at r1 (by omega) g1) (vals_at r2 (by omega) g2)
theorem deep_eqAt (hK : X.K = K) (I : Inv X pins σ H s) : ∀ (n : Nat) {A : Around} {x y : V} {u v : Value}, A.units + n < cLine -> Deep K H n x y -> RelV x u -> RelV y v -> SeqAt.EqAt A s u v true := by
  subst hK
  have flat : ∀ {A : Around} {x y : V} {u v : Value}, (x = y /\ plainV x = true) -> RelV x u -> RelV y v -> SeqAt.EqAt A s u v true := by
    intro A x y u v h r1 r2
    obtain ⟨rfl, hp⟩ := h
    exact eqAt_rel r1 r2 (fun z e => by rw [e] at hp; cases hp) (fun z e => by rw [e] at hp; cases hp)
  intro n
  induction n with
  | zero => intro A x y u v _ h r1 r2; exact flat h r1 r2
  | succ n ih =>
    intro A x y u v hu h r1 r2
    rcases h with h | ⟨a, b, xs, ys, rfl, rfl, hq, p⟩
    · exact flat h r1 r2
    · cases r1
      cases r2
      by_cases hab : a = b
      · subst hab; exact SeqAt.EqAt.same _
      · refine SeqAt.EqAt.of_refs hab ?_
        rcases hq with ⟨ha, hb⟩ | ⟨ha, hb⟩
        · obtain ⟨its, r1, p1, _⟩ := I.list ha
          obtain ⟨jts, r2, p2, _⟩ := I.list hb
          obtain ⟨hl, he⟩ := deep_vals (A := A.in1) (fun d q1 q2 => ih (by show A.units + 1 + n < cLine; omega) d q1 q2) p r1 r2
          have z := SeqAt.RcAt.lists (e := fun _ => true) p1.isList p2.isList (by simpa using hl) (by omega) he
          rw [all_true] at z
          exact z
        · obtain ⟨its, r1, p1, _⟩ := I.tuple ha
          obtain ⟨jts, r2, p2, _⟩ := I.tuple hb
          obtain ⟨hl, he⟩ := deep_vals (A := A.in1) (fun d q1 q2 => ih (by show A.units + 1 + n < cLine; omega) d q1 q2) p r1 r2
          have z := SeqAt.RcAt.tuples (e := fun _ => true) p1 p2 (by omega) he
          rw [all_true, Bool.true_and, List.size_toArray, List.size_toArray, hl, beq_self_eq_true] at z
          exact z
theorem op_eqDeep (n : Nat) (hK : X.K = K) (hu : X.A.units + 8 < cLine) (hn : n <= 7) : OpR X (compareOp .Eq) (fun x y H Q => (∃ a b xs ys, x = .ref a /\ y = .ref b /\ ((SqL K H a xs /\ SqL K H b ys) \/ (SqT K H a xs /\ SqT K H b ys)) /\ Paired (Deep K H n) xs ys) /\ Q (.bl true) H) := by
  subst hK
  intro pins s σ H x y v u Q I rx ry h
  obtain ⟨⟨a, b, xs, ys, rfl, rfl, hq, p⟩, q⟩ := h
  cases rx
  cases ry
  rcases hq with ⟨ha, hb⟩ | ⟨ha, hb⟩
  · obtain ⟨its, r1, p1, _⟩ := I.list ha
    obtain ⟨jts, r2, p2, _⟩ := I.list hb
    obtain ⟨hl, he⟩ := deep_vals (A := X.A.in1) (fun d q1 q2 => deep_eqAt rfl I n (by show X.A.units + 1 + n < cLine; omega) d q1 q2) p r1 r2
    refine SeqAt.RcAt.lists (e := fun _ => true) p1.isList p2.isList (by simpa using hl) (by omega) he _ _ _ _ ?_
    have e : ((List.range its.toArray.size).all fun _ => true) = true := by simp
    rw [e]
    exact ⟨.bl true, H, I, rfl, q⟩
  · obtain ⟨its, r1, p1, _⟩ := I.tuple ha
    obtain ⟨jts, r2, p2, _⟩ := I.tuple hb
    obtain ⟨hl, he⟩ := deep_vals (A := X.A.in1) (fun d q1 q2 => deep_eqAt rfl I n (by show X.A.units + 1 + n < cLine; omega) d q1 q2) p r1 r2
    refine SeqAt.RcAt.tuples (e := fun _ => true) p1 p2 (by omega) he _ _ _ _ ?_
    have e : ((List.range (min its.toArray.size jts.toArray.size)).all (fun _ => true) && its.toArray.size == jts.toArray.size) = true := by simp [hl]
    rw [e]
    exact ⟨.bl true, H, I, rfl, q⟩
theorem op_neDeep (n : Nat) (hK : X.K = K) (hu : X.A.units + 8 < cLine) (hn : n <= 7) : OpR X (compareOp .NotEq) (fun x y H Q => (∃ a b xs ys, x = .ref a /\ y = .ref b /\ ((SqL K H a xs /\ SqL K H b ys) \/ (SqT K H a xs /\ SqT K H b ys)) /\ Paired (Deep K H n) xs ys) /\ Q (.bl false) H) := by
  subst hK
  intro pins s σ H x y v u Q I rx ry h
  obtain ⟨⟨a, b, xs, ys, rfl, rfl, hq, p⟩, q⟩ := h
  cases rx
  cases ry
  rcases hq with ⟨ha, hb⟩ | ⟨ha, hb⟩
  · obtain ⟨its, r1, p1, _⟩ := I.list ha
    obtain ⟨jts, r2, p2, _⟩ := I.list hb
    obtain ⟨hl, he⟩ := deep_vals (A := X.A.in1) (fun d q1 q2 => deep_eqAt rfl I n (by show X.A.units + 1 + n < cLine; omega) d q1 q2) p r1 r2
    refine SeqAt.RcNeAt.lists (e := fun _ => true) p1.isList p2.isList (by simpa using hl) (by omega) he _ _ _ _ ?_
    have e : (!(List.range its.toArray.size).all fun _ => true) = false := by simp
    rw [e]
    exact ⟨.bl false, H, I, rfl, q⟩
  · obtain ⟨its, r1, p1, _⟩ := I.tuple ha
    obtain ⟨jts, r2, p2, _⟩ := I.tuple hb
    obtain ⟨hl, he⟩ := deep_vals (A := X.A.in1) (fun d q1 q2 => deep_eqAt rfl I n (by show X.A.units + 1 + n < cLine; omega) d q1 q2) p r1 r2
    refine SeqAt.RcNeAt.tuples (e := fun _ => true) p1 p2 (by omega) he _ _ _ _ ?_
    have e : (!((List.range (min its.toArray.size jts.toArray.size)).all (fun _ => true) && its.toArray.size == jts.toArray.size)) = false := by simp [hl]
    rw [e]
    exact ⟨.bl false, H, I, rfl, q⟩
end
end L2
namespace L2
open PySem
theorem len1 {A B : Type} {x0 : B} {P : List A -> Prop} (h : ∀ a0, P [a0]) : ∀ us : List A, us.length = [x0].length -> P us
  | [], e => by simp at e
  | [a0], _ => h a0
  | _ :: _ :: _, e => by simp at e
theorem len2 {A B : Type} {x0 x1 : B} {P : List A -> Prop} (h : ∀ a0 a1, P [a0, a1]) : ∀ us : List A, us.length = [x0, x1].length -> P us
  | [], e => by simp at e
  | [_], e => by simp at e
  | [a0, a1], _ => h a0 a1
  | _ :: _ :: _ :: _, e => by simp at e
theorem len3 {A B : Type} {x0 x1 x2 : B} {P : List A -> Prop} (h : ∀ a0 a1 a2, P [a0, a1, a2]) : ∀ us : List A, us.length = [x0, x1, x2].length -> P us
  | [], e => by simp at e
  | [_], e => by simp at e
  | [_, _], e => by simp at e
  | [a0, a1, a2], _ => h a0 a1 a2
  | _ :: _ :: _ :: _ :: _, e => by simp at e
theorem len4 {A B : Type} {x0 x1 x2 x3 : B} {P : List A -> Prop} (h : ∀ a0 a1 a2 a3, P [a0, a1, a2, a3]) : ∀ us : List A, us.length = [x0, x1, x2, x3].length -> P us
  | [], e => by simp at e
  | [_], e => by simp at e
  | [_, _], e => by simp at e
  | [_, _, _], e => by simp at e
  | [a0, a1, a2, a3], _ => h a0 a1 a2 a3
  | _ :: _ :: _ :: _ :: _ :: _, e => by simp at e
end L2
namespace L2
open PySem PySem.Spec
structure ExcP (K : PySem.W.Frag) (C : Addr) (f : Str) : Prop where
  ga : PySem.W.findIn K (.ref C) "__getattribute__" = some (some (.builtin "BaseException.__getattribute__"))
  gg : PySem.W.findIn K (.ref C) "__getattr__" = some none
  no : PySem.W.findIn K (.ref C) f = some none
  be : PySem.W.mroIn K C (.type "BaseException") = some true
  hd : (PySem.W.clsIn K C).map (·.hasDict) = some true
section
variable {prog : Program} {w : World} {A : Around} {E : Value -> Shared -> Prop} {s : Shared} {K : PySem.W.Frag} {x C d : Addr} {o : Obj} {f : Str} {v : Value} {vs : Array Value} {mA : Str -> Option Value}
open PySem.W Builtin.ObjectAttr in
theorem xa_find {M : Model} {h : Heap} (X : K.In h) (q : ExcP K C f) (hx : h.get? x = some o) (hc : o.cls = .ref C) (hv : o.data = .fields vs) (hd : o.dict = some d) (hn : h.Ns1 d mA) (e : mA f = some v) :
    Looks M h (find (.ref x) (.ref C) f) (.value v) := by
  obtain ⟨cd, hcd, hdd⟩ := Option.map_eq_some_iff.mp q.hd
  have L1 := looks_findIn (M := M) X q.no
  have L2 := looks_clsIn (M := M) X hcd
  have L3 : Looks M h (instanceDict x false) (some d) := by
    intro A' Q' E' s' k z
    unfold instanceDict
    refine wpAny_bind (wpAny_loadPart (k _ _ hx) ?_)
    rw [hc]
    dsimp only
    refine wpAny_bind (L2 A' _ E' s' k ?_)
    rw [hdd, hd]
    exact wpAny_pure z
  have L4 : Looks M h (Builtin.ObjectAttr.ownDict x) (some d) := by
    intro A' Q' E' s' k z
    unfold Builtin.ObjectAttr.ownDict loadHead
    refine wpAny_bind (wpAny_loadPart (k _ _ hx) ?_)
    rw [hv]
    exact L3 A' Q' E' s' k z
  have L5 : Looks M h (inOwnDict f (.ref x)) (some v) := L4.andThen fun A' Q' E' s' k z => wpAny_nsGet (hn.at fun o' e' => k _ _ e').ns (by rw [e]; exact z)
  exact L1.andThen (Looks.now.andThen (Looks.now.andThen (L5.andThen (Looks.tag .now))))
open PySem.W in
theorem xa_body {tk : Tok} {Q : Fin -> Shared -> Prop} (X : K.In s.heap) (q : ExcP K C f) (hx : s.heap.get? x = some o) (hc : o.cls = .ref C) (hv : o.data = .fields vs) (hd : o.dict = some d) (hn : s.heap.Ns1 d mA) (e : mA f = some v) (h : Q (.done (.ret v)) s) :
    wpAny (model prog w) A (Builtin.«object.__getattribute__» ⟨[.ref x, .str f tk], []⟩) Q E s := by
  obtain ⟨hp, g, dr, t, os⟩ := s
  have F1 := xa_find (M := model prog w) X q hx hc hv hd hn e
  have L : Looks (model prog w) hp (typeOf (.ref x)) (.ref C) := hc ▸ (Looks.ld hx).andThen .now
  unfold Builtin.«object.__getattribute__»
  refine wpAny_bind (wpAny_of_eq (a := (Value.ref x, [Value.str f tk])) (by rfl) ?_)
  refine wpAny_bind (wpAny_of_eq (a := f) (by rfl) ?_)
  exact wpAny_bind (L.at (wpAny_bind (F1.at (wpAny_pure h))))
open PySem.W in
theorem xa_get {Q : Value -> Shared -> Prop} (X : K.In s.heap) (q : ExcP K C f) (hx : s.heap.get? x = some o) (hc : o.cls = .ref C) (hv : o.data = .fields vs) (hd : o.dict = some d) (hn : s.heap.Ns1 d mA) (e : mA f = some v) (ho : handedOut v = pure v)
    (h : Q v { s with toks := s.toks + 1 }) : wpAny (model prog w) A (getAttr (.ref x) f true) Q E s := by
  obtain ⟨hp, g, dr, t, os⟩ := s
  have L : Looks (model prog w) hp (typeOf (.ref x)) (.ref C) := hc ▸ (Looks.ld hx).andThen .now
  have L1 := looks_findIn (M := model prog w) X q.ga
  have L2 := looks_findIn (M := model prog w) X q.gg
  have L3 := looks_mroIn (M := model prog w) X q.be
  unfold getAttr getAttrBy
  refine wpAny_bind (wpAny_mkText (wpAny_holding (wpAny_bind (L.at (wpAny_bind (L1.at ?_))))))
  have e0 : (onTheHeap (Value.ref C) && Value.builtin "BaseException.__getattribute__" == Value.builtin "object.__getattribute__") = false := by
    have : (Value.builtin "BaseException.__getattribute__" == Value.builtin "object.__getattribute__") = false := by decide +kernel
    rw [this]; rfl
  dsimp only
  rw [e0, if_neg Bool.false_ne_true]
  unfold getAttrByItsOwn hookBefore
  refine wpAny_bind ?_
  show wpAny _ _ (typeLookup (.ref C) "__getattr__") _ _ _
  refine L2.at ?_
  refine wpAny_bind (wpAny_attempt (wpAny_holding ?_))
  show wpAny _ _ (boundAndCalled (.builtin "BaseException.__getattribute__") (.ref x) (.str f t)) _ _ _
  unfold boundAndCalled
  refine wpAny_bind (wpAny_of_eq (F.attr_ValueError.ga.bind (.ref x)) ?_)
  show wpAny _ _ (call (.builtin "BaseException.__getattribute__") [.ref x, .str f t]) _ _ _
  refine wpAny_call (codeAny_call_builtin F.attr_ValueError.ga.plain F.entry_bexc_ga ?_)
  have chk : ∀ {M : Model} {A' : Around} {E' : Value -> Shared -> Prop} {Q' : Unit -> Shared -> Prop} {tk : Nat}, Looks M hp (isSubtype (.ref C) (.type "BaseException")) true -> Looks M hp (typeOf (.ref x)) (.ref C) -> Q' () ⟨hp, g, dr, tk, os⟩ ->
      wpAny M A' (checkBuiltinCall "BaseException.__getattribute__" ⟨[.ref x, .str f t], []⟩) Q' E' ⟨hp, g, dr, tk, os⟩ := fun {M A' E' Q' tk} LB LT hq => by
    have hk : builtinKind "BaseException.__getattribute__" = some .slot := by decide +kernel
    have hsplit : splitId "BaseException.__getattribute__" = some ("BaseException", "__getattribute__") := by decide +kernel
    have ha := F.args_bexc_ga (.ref x) (.str f t)
    simp only [checkBuiltinCall, hk, hsplit]
    refine wpAny_bind ((LT.andThen LB : Looks M hp (isInstance (.ref x) (.type "BaseException")) true).at ?_)
    repeat (any_goals (first | assumption | wp_step))
  refine chk L3 L ?_
  refine xa_body (s := ⟨hp, g, dr, t + 1, os⟩) X q hx hc hv hd hn e ?_
  show wpAny _ _ (handedOut v) _ _ _
  rw [ho]
  exact wpAny_pure h
end
end L2
namespace L2
open PySem PySem.Spec
abbrev veTail : List Value := [.type "ValueError", .type "Exception", .type "BaseException", .type "object"]
structure ExcS (K : PySem.W.Frag) (C : Addr) (f : Str) : Prop where
  sa : PySem.W.findIn K (.ref C) "__setattr__" = some (some (.builtin "object.__setattr__"))
  no : PySem.W.findIn K (.ref C) f = some none
  ob : PySem.W.mroIn K C (.type "object") = some true
  mro : (PySem.W.clsIn K C).map (fun cd => cd.hasDict && (cd.mro.dropWhile fun v => match v with | .ref _ => true | _ => false) == veTail) = some true
theorem refuse_refs (self : Value) (what : Str) : ∀ l : List Value, refuseLoop self what (l.dropWhile fun v => match v with | .ref _ => true | _ => false) = pure () -> refuseLoop self what l = pure ()
  | [], h => h
  | v :: l, h => by
    cases v with
    | ref a => rw [refuseLoop_ref]; exact refuse_refs self what l h
    | _ => exact h
section
variable {prog : Program} {w : World} {A : Around} {E : Value -> Shared -> Prop} {s : Shared} {K : PySem.W.Frag} {x C : Addr} {o : Obj} {f : Str} {v : Value} {vs : Array Value}
open PySem.W Builtin.ObjectAttr in
theorem xs_set {Q : Unit -> Shared -> Prop} (X : K.In s.heap) (q : ExcS K C f) (hx : s.heap.get? x = some o) (hc : o.cls = .ref C) (hv : o.data = .fields vs) (hd : o.dict = none)
    (h : ∀ h' d t, s.heap.get? d = none -> h'.get? x = some { o with dict := some d } -> h'.Ns1 d (fun y => if y = f then some v else none) -> (∀ b ob, b ≠ x -> s.heap.get? b = some ob -> h'.get? b = some ob) -> Q () { s with heap := h', toks := t }) :
    wpAny (model prog w) A (setAttr (.ref x) f v) Q E s := by
  have nc : notCls o = true := by unfold notCls; rw [hv]
  have I : InstAt s.heap x o C none := ⟨hx, hc, nc, by rw [hd]; trivial⟩
  obtain ⟨cd, hcd, hb⟩ := Option.map_eq_some_iff.mp q.mro
  rw [Bool.and_eq_true] at hb
  obtain ⟨hdd, hmr⟩ := hb
  have hmr := beq_iff_eq.mp hmr
  have SF := PySem.F.store_ValueError
  refine set_plain X I q.sa ?_
  have SO := PySem.F.store_object
  have L0 : Looks (model prog w) s.heap (isInstance (.ref x) (.type "object")) true := I.type.andThen (looks_mroIn X q.ob)
  refine codeAny_call_builtin SO.slot.plain SO.entry (@check_slot (model prog w) _ _ { s with toks := s.toks + 1 } "object.__setattr__" "object" "__setattr__" (.ref x) [.str f s.toks, v] [] _ SO.kind SO.split L0 (SO.args (.ref x) (.str f s.toks) v) ?_)
  have Lt := I.type (M := model prog w)
  have Lm : Looks (model prog w) s.heap (mroOf (.ref C)) cd.mro := (looks_clsIn X hcd).andThen .now
  have Ln := looks_findIn (M := model prog w) X q.no
  rw [osa_eq, refuse_eq]
  have Lr : Looks (model prog w) s.heap (typeOf (.ref x) >>= fun tp => mroOf tp >>= fun l => refuseLoop (.ref x) "__setattr__" l) () := Lt.andThen (Lm.andThen (Looks.of_pure (refuse_refs _ _ _ (by rw [hmr]; exact SF.passes _))))
  refine wpAny_bind (Lr _ _ _ _ (fun _ _ e => e) (wpAny_bind (Lt _ _ _ _ (fun _ _ e => e) (wpAny_bind (Ln _ _ _ _ (fun _ _ e => e) (wpAny_bind (wpAny_pure ?_)))))))
  show wpAny _ _ (storeInOwnDict (.ref x) (.ref C) (.str f s.toks) f v false) _ _ _
  have hxs : x ≠ s.heap.objs.size := Nat.ne_of_lt (Heap.lt_size hx)
  have hx1 : (s.heap.push { cls := .type "dict", data := .dict #[] }).get? x = some o := Heap.get?_push_of_some _ hx
  unfold storeInOwnDict ownDictForStores instanceDict
  refine wpAny_bind (wpAny_pure (wpAny_bind (wpAny_bind (wpAny_loadPart hx ?_))))
  rw [hc]
  refine wpAny_bind ((looks_clsIn X hcd) _ _ _ _ (fun _ _ e => e) ?_)
  rw [hdd, hd, hv]
  refine wpAny_bind (wpAny_alloc' (wpAny_bind (wpAny_update' hx1 (wpAny_pure ?_))))
  have hg : ((s.heap.push { cls := .type "dict", data := .dict #[] }).update x fun o => { o with dict := some s.heap.objs.size }).get? s.heap.objs.size = some { cls := .type "dict", data := .dict #[] } := (Heap.get?_update_ne _ _ _ _ hxs.symm).trans (Heap.get?_push_at rfl rfl)
  have hn0 : ((s.heap.push { cls := .type "dict", data := .dict #[] }).update x fun o => { o with dict := some s.heap.objs.size }).Ns s.heap.objs.size (fun _ => none) := ⟨_, #[], _, hg, rfl, fun e he => absurd he (by simp), fun _ => rfl⟩
  show wpAny _ _ (storeInDict s.heap.objs.size (.str f s.toks) f v) _ _ _
  refine wpAny_bind (wpAny_pure (wpAny_bind (wpAny_nsSet1 (Heap.Ns1.of_empty hn0) fun h' hn' hs => ?_)))
  obtain ⟨oD, esD, epD, hoD, hdD, hcD⟩ := hn'.count (Within.cons f v Within.nil)
  refine wpAny_bind (wpAny_lookBehind hoD (by rw [hdD]; exact pastItsLine_dict (Nat.le_trans hcD (by rw [List.length_cons, List.length_nil, sizeLine_eq]; omega))) ?_)
  refine wpAny_pure ?_
  refine h h' s.heap.objs.size _ (Heap.get?_none_of_le (Nat.le_refl _)) ?_ hn' fun b ob hb e => ?_
  · refine (hs.2 x hxs).trans (Heap.get?_update_self _ hx1 ?_)
    have al := get_alive hx
    obtain ⟨oc, od, odt, osl⟩ := o
    cases odt <;> first | rfl | exact al
  · exact (hs.2 b (Nat.ne_of_lt (Heap.lt_size e))).trans ((Heap.get?_update_ne _ _ _ _ hb).trans (Heap.get?_push_of_some _ e))
end
end L2
namespace L2
open PySem PySem.Spec
abbrev xO (C t : Addr) (dx : Option Addr) : Obj := { cls := .ref C, dict := dx, data := .fields #[.ref t, .none, .none, .none, .bool false, .none] }
abbrev xT (us : List Value) : Obj := { cls := .type "tuple", data := .seq us.toArray }
def exiIn (K : PySem.W.Frag) (C : Addr) : Bool := match K.lookup C with | some ⟨.type "type", _, .cls cd, sl⟩ => (match cd.mro, sl.toList with | .ref C' :: bm, [_, _, _, _, some (.builtin n), _] => C' == C && n == "ValueError.__new__" && !cd.hasDel && PySem.W.tailIn K veTail bm | _, _ => false) | _ => false
theorem exi_obj {K : PySem.W.Frag} {C : Addr} {h : Heap} (q : exiIn K C = true) (X : K.In h) : ∃ (bm : List Value) (N : Addr) (nm qn : Str) (bs : List Value) (hd : Bool) (sn : List Str) (sub : List Value) (ab : Bool) (col : Option Bool) (dd : Option Addr) (k0 k1 k2 k3 k5 : Option Value),
    h.get? C = some (excClassObj nm qn C N bs bm hd sn sub ab col dd k0 k1 k2 k3 k5 "ValueError.__new__") /\ OwnTail h veTail bm := by
  unfold exiIn at q
  split at q
  case h_1 dd cd sl ho =>
    split at q
    case h_1 C' bm k0 k1 k2 k3 n k5 hm hs =>
      rw [Bool.and_eq_true, Bool.and_eq_true, Bool.and_eq_true] at q
      obtain ⟨⟨⟨q1, q2⟩, q3⟩, q4⟩ := q
      obtain rfl := beq_iff_eq.mp q1
      obtain rfl := beq_iff_eq.mp q2
      obtain ⟨nm, bs, mro, ns, qn, hd, sn, sub, ab, col, del⟩ := cd
      dsimp only at hm q3
      cases del with
      | true => cases q3
      | false =>
        subst hm
        obtain ⟨l⟩ := sl
        dsimp only at hs
        subst hs
        exact ⟨bm, ns, nm, qn, bs, hd, sn, sub, ab, col, dd, k0, k1, k2, k3, k5, X _ _ ho, PySem.W.tail_of_in X q4⟩
    case h_2 => cases q
  case h_2 => cases q
section
variable {prog : Program} {w : World} {A : Around} {E : Value -> Shared -> Prop} {h : Heap} {g : Array GenState} {d : Drawn} {t : Nat} {os : OsState}
variable {nm q : Str} {C N fI : Addr} {bs bm : List Value} {hdct : Bool} {sn : List Str} {sub : List Value} {ab : Bool} {col : Option Bool} {dd : Option Addr} {k0 k1 k2 k3 k5 : Option Value} {rest : List Value}
theorem xi_type {Q : Fin -> Shared -> Prop} (T : OwnTail h veTail bm) (hC : h.get? C = some (excClassObj nm q C N bs bm hdct sn sub ab col dd k0 k1 k2 k3 k5 "ValueError.__new__"))
    (hi : PySem.W.Looks (model prog w) h (typeLookup (.ref C) "__init__") (some (.ref fI))) (hb : ∀ self, PySem.W.Looks (model prog w) h (bindSpecial (.ref fI) self) (.ref fI, [self])) (hr : rest.length <= sizeLine)
    (hq : wpAny (model prog w) A (call (.ref fI) (.ref (h.objs.size + 1) :: rest)) (fun r s' => r = .none /\ Q (.done (.ret (.ref (h.objs.size + 1)))) s') E ⟨(h.push (xT rest)).push (xO C h.objs.size none), g, d, t, os⟩) :
    wpAny (model prog w) A (Builtin.«type.__call__» ⟨.ref C :: rest, []⟩) Q E ⟨h, g, d, t, os⟩ := by
  have Fb := PySem.F.excBase_ValueError
  have kk : ∀ b o, h.get? b = some o -> ((h.push (xT rest)).push (xO C h.objs.size none)).get? b = some o := fun b o z => Heap.get?_push_of_some _ (Heap.get?_push_of_some _ z)
  repeat (first | with_reducible (refine wpAny_loadPart_at hC ?_) | with_reducible (refine wpAny_madeBy_exc hC ?_) | wp_step)
  refine codeAny_call_builtin_code (Code.quiet_builtin _ Fb.quiet) (wpAny_check_new_subU Fb (by decide +kernel) T hC (codeAny_exc_new_subU Fb (by decide +kernel) Fb T hC ?_ hr))
  show wpAny _ _ _ _ _ _
  have C1 := kk _ _ hC
  have e1 : ((h.push (xT rest)).push (xO C h.objs.size none)).get? (h.objs.size + 1) = some (xO C h.objs.size none) := by heap_get
  have cC : (Value.ref C :: bm).contains (.ref C) = true := by simp
  have i1 := hi.keeps kk
  have b1 := (hb (.ref (h.objs.size + 1))).keeps kk
  unfold isInstance
  repeat (first | with_reducible (refine wpAny_loadPart_at e1 ?_) | (with_reducible (refine wpAny_isSubtype_exc C1 ?_); rw [cC]) | wp_step)
  show wpAny _ _ (typeLookup (.ref C) _) _ _ _
  refine i1.at ?_
  refine wpAny_holding (wpAny_bind (b1.at ?_))
  refine wpAny_bind (wpAny_mono hq (fun r s' hr => ?_) fun _ _ x => x)
  obtain ⟨rfl, hQ⟩ := hr
  wp_walk
  exact hQ
theorem xi_call {Q : Value -> Shared -> Prop} (T : OwnTail h veTail bm) (hC : h.get? C = some (excClassObj nm q C N bs bm hdct sn sub ab col dd k0 k1 k2 k3 k5 "ValueError.__new__"))
    (hi : PySem.W.Looks (model prog w) h (typeLookup (.ref C) "__init__") (some (.ref fI))) (hb : ∀ self, PySem.W.Looks (model prog w) h (bindSpecial (.ref fI) self) (.ref fI, [self])) (hr : rest.length <= sizeLine)
    (hq : wpAny (model prog w) (A.under (.builtin "type.__call__" ⟨.ref C :: rest, []⟩)) (call (.ref fI) (.ref (h.objs.size + 1) :: rest)) (fun r s' => r = .none /\ Q (.ref (h.objs.size + 1)) s') E ⟨(h.push (xT rest)).push (xO C h.objs.size none), g, d, t, os⟩) :
    wpAny (model prog w) A (call (.ref C) rest) Q E ⟨h, g, d, t, os⟩ := by
  have f1 := tc_lookup
  have f2 := tc_bind (.ref C)
  have hT : (⟨h, g, d, t, os⟩ : Shared).TypeIs (.ref C) "type" := ⟨_, hC, rfl⟩
  refine wpAny_call (codeAny_of_tree ?_)
  show wpAny _ _ (callAny (.ref C) _) _ _ _
  repeat (any_goals (first | assumption | with_reducible (refine wpAny_loadPart_at hC ?_) | wp_step))
  refine ⟨rfl, codeAny_call_builtin_at (Code.quiet_builtin _ (by decide +kernel)) entry_typeCall (wpAny_check_type_call_sub hC (xi_type T hC hi hb hr hq))⟩
end
section
variable {M : Model} {A : Around} {E : Value -> Shared -> Prop} {env : Env}
variable {nm q : Str} {C N : Addr} {bs bm : List Value} {hdct : Bool} {sn : List Str} {sub : List Value} {ab : Bool} {col : Option Bool} {dd : Option Addr} {k0 k1 k2 k3 k5 : Option Value} {newId : String}
theorem xi_raiseStmt {s : Shared} {x : Sem Value} {Q : Flow -> Shared -> Prop} (hbase : bm.contains (.type "BaseException") = true) (hh : A.handled = none)
    (h : wpAny M A x (fun v s1 => ∃ e t dx, v = .ref e /\ s1.heap.get? C = some (excClassObj nm q C N bs bm hdct sn sub ab col dd k0 k1 k2 k3 k5 newId) /\ s1.heap.get? e = some (xO C t dx) /\ E (.ref e) s1) E s) :
    wpAny M A (raiseStmt env (some x) none) Q E s := by
  have cB : (Value.ref C :: bm).contains (.type "BaseException") = true := by rw [List.contains_cons, hbase, Bool.or_true]
  unfold raiseStmt
  refine wpAny_bind (wpAny_mono h (fun v s1 h1 => ?_) fun _ _ x => x)
  obtain ⟨e, t, dx, rfl, hC, he, hE⟩ := h1
  obtain ⟨hp, g, d, tk, os⟩ := s1
  repeat (first | with_reducible (refine wpAny_loadPart_at he ?_) | with_reducible (refine wpAny_loadPart_at hC ?_) | (with_reducible (refine wpAny_isSubtype_exc hC ?_); rw [cB]) | wp_step)
  exact wpAny_raiseNew_none hh hE
end
end L2
namespace L2
open PySem PySem.Spec PyProof.Rows
def excN (C a : Addr) : HO := .ext fun h => ∃ t, h.get? a = some (xO C t none)
def excM (C a d : Addr) : HO := .ext fun h => ∃ t, h.get? a = some (xO C t (some d))
def del (H : Hp) (e : Addr) : Hp := fun b => if b = e then none else H b
theorem del_ne {H : Hp} {e b : Addr} (h : b ≠ e) : del H e b = H b := by unfold del; rw [if_neg h]
theorem ne_ext {H : Hp} {a b : Addr} {φ : Heap -> Prop} {o : HO} (h : H a = some (.ext φ)) (h' : H b = some o) (d : ∀ ψ, o ≠ .ext ψ) : b ≠ a := by
  rintro rfl
  rw [h] at h'
  exact d _ (Option.some.inj h').symm
section
variable {X : Cx} {pins : List (Addr × Obj)} {σ : St} {H : Hp} {s : Shared} {a C : Addr} {f : Str}
theorem Inv.drop {φ : Heap -> Prop} (I : Inv X pins σ H s) (ea : H a = some (.ext φ)) : Inv X pins σ (del H a) s := by
  have nn : ∀ b, H b = none -> del H a b = none := fun b q => by
    unfold del; split
    · rfl
    · exact q
  refine ⟨I.ok, I.os, I.bare, ⟨I.base.keep, I.base.slot, fun b o q n hx => nn b (I.base.free b o q n hx), I.base.there, fun b xs q => ?_, fun b o u q => ?_, fun b ps q => ?_⟩, I.loc, I.cell, nn _ I.free, fun x c e => nn _ (I.freeC x c e), fun p hp => ?_, fun b u q => ?_, I.len⟩
  · have z := I.base.tups b xs q
    rw [del_ne (ne_ext ea z fun ψ => by simp)]; exact z
  · have z := I.base.frzs b o u q
    rw [del_ne (ne_ext ea z fun ψ => by simp)]; exact z
  · obtain ⟨m, z⟩ := I.base.tbls b ps q
    exact ⟨m, by rw [del_ne (ne_ext ea z fun ψ => by simp)]; exact z⟩
  · obtain ⟨z1, z2, z3⟩ := I.pin p hp
    exact ⟨z1, nn _ z2, z3⟩
  · by_cases hb : b = a
    · unfold del at q; rw [if_pos hb] at q; cases q
    · rw [del_ne hb] at q
      exact (I.hok b u q).stay (fun _ _ _ r => r) (fun c r => by rw [del_ne (ne_ext ea r fun ψ => by simp)]; exact r) fun c xs r => by rw [del_ne (ne_ext ea r fun ψ => by simp)]; exact r
theorem xset_ok {y : V} {u : Value} {Q : Unit -> Shared -> Prop} (I : Inv X pins σ H s) (ea : H a = some (excN C a)) (q : ExcS X.K C f) (ry : RelV y u)
    (h : ∀ s' d, H d = none -> Inv X pins σ (upd (upd H a (excM C a d)) d (.xd [(f, y)])) s' -> Q () s') : wpAny (model X.prog X.w) X.A (setAttr (.ref a) f u) Q X.xe s := by
  obtain ⟨⟨t, ho⟩, _, _⟩ := (show ObjOk X.prog X.w H s.heap a (excN C a) from I.hok a _ ea)
  refine xs_set I.kIn q ho rfl rfl rfl fun h' d tk hd hx hn k => ?_
  have hHd : H d = none := by
    cases z : H d with
    | none => rfl
    | some u =>
      obtain ⟨o, e⟩ := hok_there (I.hok d u z)
      rw [hd] at e; cases e
  have na : ∀ b, H b = none -> b ≠ a := fun b z e => by rw [e, ea] at z; cases z
  have nd : ∀ b o, s.heap.get? b = some o -> b ≠ d := fun b o z e => by rw [e, hd] at z; cases z
  have nH : ∀ b o, H b = some o -> b ≠ d := fun b o z e => by rw [e, hHd] at z; cases z
  have go : ∀ b o, H b = some o -> (∀ ψ, o ≠ .ext ψ) -> upd (upd H a (excM C a d)) d (.xd [(f, y)]) b = some o := fun b o z e => by
    rw [upd_ne (nH b o z), upd_ne (ne_ext ea z e)]; exact z
  refine h _ d hHd (I.un (t' := tk) ⟨fun b o e n _ _ => k b o (na b n) e, fun b o e n _ _ => ⟨o.slots, k b o (na b n) e⟩, fun b o e n _ => ?_, fun b o e _ => ?_, fun b xs e => go b _ e fun ψ => by simp, fun b o u e => go b _ e fun ψ => by simp, fun b ps e => ⟨#[], ?_⟩⟩ fun b u e => ?_)
  · rw [upd_ne (nd b o e), upd_ne (na b n)]; exact n
  · by_cases hb : b = a
    · rw [hb]; exact ⟨_, hx⟩
    · exact ⟨o, k b o hb e⟩
  · rw [Array.append_empty]; exact go b _ e fun ψ => by simp
  · by_cases hb : b = d
    · subst hb
      rw [upd_same] at e
      cases e
      refine ⟨_, hn, fun g => ?_⟩
      show RelO (List.lookup g [(f, y)]) (if g = f then some u else none)
      by_cases hg : g = f
      · rw [if_pos hg]
        subst hg
        rw [List.lookup_cons_self]
        exact ry
      · rw [if_neg hg]
        have : List.lookup g [(f, y)] = none := by
          rw [List.lookup_cons, beq_false_of_ne hg]
          rfl
        rw [this]
        trivial
    · rw [upd_ne hb] at e
      by_cases hb2 : b = a
      · subst hb2
        rw [upd_same] at e
        cases e
        exact ⟨⟨t, hx⟩, ⟨_, hx⟩, fun h1 h2 ⟨t, z⟩ st => ⟨t, st _ z⟩⟩
      · rw [upd_ne hb2] at e
        refine (I.hok b u e).stay (fun c v hc r => k c v ?_ r) (fun c r => go c _ r fun ψ => by simp) fun c xs r => go c _ r fun ψ => by simp
        rcases hc with rfl | hc
        · exact hb2
        · exact ne_ext ea hc fun ψ => by simp
end
def sXset (K : PySem.W.Frag) (ta tv : TE) (f : Str) : TS := fun D σ H => tv σ H fun y H1 => ta σ H1 fun x H2 => ∃ a C, x = .ref a /\ H2 a = some (excN C a) /\ ExcS K C f /\ ∀ d, H2 d = none -> D.nx σ (upd (upd H2 a (excM C a d)) d (.xd [(f, y)]))
theorem ps_xset {X : Cx} {o value : Expr} {f : Str} {pos pos' : Pos} {ta tv : TE} (ha : PE X o ta) (hv : PE X value tv) (hs : swapsWith value (some (.Attribute o f pos')) pos.line X.env = pure false) : PS X (.Assign [.Attribute o f pos'] value pos) (sXset X.K ta tv f) := by
  intro pins s σ H D I h
  refine plainObj_wpAny_Assign_Attribute (thn (hv pins s σ H _ I h) fun u s1 ⟨y, H1, I1, ry, q⟩ => thn (ha pins s1 σ H1 _ I1 q) fun ov s2 ⟨x, H2, I2, rx, a, C, ex, ea, c, q2⟩ => ?_) hs
  subst ex
  obtain rfl : ov = Value.ref a := rx
  exact xset_ok I2 ea c ry fun s3 d hd I3 => ⟨σ, _, I3, q2 d hd⟩
def SpX (C : Addr) (f : Str) : Sp := fun vs H Q _ => ∃ a v, vs = [.ref a, v] /\ H a = some (excN C a) /\ ∀ d, H d = none -> Q .non (upd (upd H a (excM C a d)) d (.xd [(f, v)]))
structure ExI (K : PySem.W.Frag) (mg : Str -> Option Value) (x : Str) (C : Addr) (f : Str) : Prop where
  c : exiIn K C = true
  s : ExcS K C f
  p : ExcP K C f
  g : mg x = some (.ref C)
structure XCal (P : Program) (w : World) (K : PySem.W.Frag) (mg : Str -> Option Value) (base : Heap) (k : Nat) (x : Str) (C : Addr) (f : Str) : Prop where
  i : ExI K mg x C f
  ex : ∃ fI fd ps, Meth K C "__init__" fI /\ FnOk P w K mg base (CXE P w) k fI fd ps (SpX C f) /\ Binds K fd ps []
def tRaiseI (C : Addr) (f : Str) (G : St -> XK) (t : TA) : TS := fun _ σ H => t σ H fun vs H1 => ∃ v, vs = [v] /\ ∀ d, H1 d = none -> G σ (.ref C) (some d) (upd H1 d (.xd [(f, v)]))
section
variable {X : Cx} {C : Addr} {G : St -> XK} {f x : Str} {np cpos pos : Pos} {e : Expr} {es : List Expr} {t : TA} {k : Nat}
theorem ps_raiseI (hc : X.calm = true) (c : XCal X.prog X.w X.K X.mg X.base k x C f) (hr : Room (k + 1) X.A) (hg : Gl X x) (hx : RaiseD X G) (ha : PA X (e :: es) t)
    (he : starEach (e :: es) X.env = (false, eval e X.env) :: starEach es X.env := by rfl) (hpl : (backTo cpos (starEach es X.env)).any (·.1) = false := by rfl) (hdb : (x == ("__debug__" : Str)) = false := by decide) :
    PS X (.Raise (some (.Call (.Name x np) (e :: es) [] cpos)) none pos) (tRaiseI C f G t) := by
  intro pins s σ H D I h
  obtain ⟨fI, fd, ps, M, F, hb⟩ := c.ex
  have hpl' : (backTo cpos (starEach (e :: es) X.env)).any (·.1) = false := by
    rw [he]
    show ((false || (backTo cpos (starEach es X.env)).any (·.1))) = false
    rw [hpl]; rfl
  obtain ⟨bm, N, nm, qn, bs, hd, sn, sub, ab, col, dd, k0, k1, k2, k3, k5, hC, TL⟩ := exi_obj c.i.c I.mod.kin
  rw [arm_exec_Raise]
  refine wpAny_bind (wpAny_standAt (xi_raiseStmt (C := C) (nm := nm) (q := qn) (N := N) (bs := bs) (bm := bm) (hdct := hd) (sn := sn) (sub := sub) (ab := ab) (col := col) (dd := dd) (k0 := k0) (k1 := k1) (k2 := k2) (k3 := k3) (k5 := k5) (newId := "ValueError.__new__") (TL.hasType (by decide +kernel)) (I.ok.hd hc) ?_))
  refine wpAny_bind (wpAny_mono (wpAny_Call_ofName (ld_glob I hg c.i.g ?_ hdb)) (fun v s3 h3 => wpAny_bind (wpAny_standAt (wpAny_pure h3))) fun _ _ z => z)
  unfold callWith
  have pa := ha cpos pins s σ H _ I h
  rw [he] at pa ⊢
  rw [he] at hpl'
  refine wpAny_bind (wpAny_holding ?_)
  show wpAny _ _ (evalArgs (.ref C) true ((false, eval e X.env) :: backTo cpos (starEach es X.env)) []) _ _ _
  refine Calls.evalArgs_plain (thn pa fun us s1 ⟨vs, H1, I1, r1, v, ev, q1⟩ => wpAny_bind (wpAny_standAt ?_))
  subst ev
  have hlen : us.length <= sizeLine := by rw [<- r1.length, sizeLine_eq]; exact Nat.le_of_ble_eq_true rfl
  have hC1 := I1.bk _ _ hC
  have T1 := TL.keeps I1.bk
  have kin := I1.kIn
  have hsz := I1.sz
  have I2 : Inv X pins σ (upd H1 (s1.heap.objs.size + 1) (excN C (s1.heap.objs.size + 1))) { s1 with heap := (s1.heap.push (xT us)).push (xO C s1.heap.objs.size none) } := by
    have J := I1.kept (h' := s1.heap.push (xT us)) (t' := s1.toks) fun b o z => Heap.get?_push_of_some _ z
    have e2 : ((s1.heap.push (xT us)).push (xO C s1.heap.objs.size none)).get? (s1.heap.objs.size + 1) = some (xO C s1.heap.objs.size none) := by heap_get
    exact J.laid (a := s1.heap.objs.size + 1) (o := excN C (s1.heap.objs.size + 1)) (t' := s1.toks) (fun b u q => Heap.get?_push_of_some _ q) (Nat.le_of_eq (Heap.size_push _ _)) ⟨⟨_, e2⟩, ⟨_, e2⟩, fun h1 h2 ⟨t, z⟩ st => ⟨t, st _ z⟩⟩
  have hn1 : H1 (s1.heap.objs.size + 1) = none := I1.hok.fresh (Nat.le_succ _)
  have hsp : SpX C f [V.ref (s1.heap.objs.size + 1), v] (upd H1 (s1.heap.objs.size + 1) (excN C (s1.heap.objs.size + 1)))
      (fun z H2 => z = .non /\ ∃ d, H1 d = none /\ d ≠ s1.heap.objs.size + 1 /\ H2 = upd (upd (upd H1 (s1.heap.objs.size + 1) (excN C (s1.heap.objs.size + 1))) (s1.heap.objs.size + 1) (excM C (s1.heap.objs.size + 1) d)) d (.xd [(f, v)])) (fun _ _ _ => False) :=
    ⟨_, v, rfl, upd_same, fun d hd => by
      have hne : d ≠ s1.heap.objs.size + 1 := fun z => by rw [z, upd_same] at hd; cases hd
      exact ⟨rfl, d, by rw [upd_ne hne] at hd; exact hd, hne, rfl⟩⟩
  have r2 : Vals [V.ref (s1.heap.objs.size + 1), v] (Value.ref (s1.heap.objs.size + 1) :: us) := .cons rfl r1
  have hl : (Value.ref (s1.heap.objs.size + 1) :: us ++ []).length = ps.length := by
    have z := r2.length
    rw [F.len _ _ _ _ hsp] at z
    rw [List.append_nil]; exact z.symm
  have hb2 := hb _ (Value.ref (s1.heap.objs.size + 1) :: us) I2.kIn hl
  rw [List.append_nil] at hb2
  have hq0 : s1.heap.objs.size = s1.heap.objs.size := rfl
  have run := F.run _ X.stack _ _ ⟨Value.ref (s1.heap.objs.size + 1) :: us, []⟩ (Value.ref (s1.heap.objs.size + 1) :: us) _ _ _ (hr.make C us []) (I2.env0.make C us []) hb2 r2 hsp
  have hi : PySem.W.Looks (model X.prog X.w) s1.heap (typeLookup (.ref C) "__init__") (some (.ref fI)) := PySem.W.looks_findIn kin M.at_
  have hbd : ∀ self, PySem.W.Looks (model X.prog X.w) s1.heap (bindSpecial (.ref fI) self) (.ref fI, [self]) := fun self => PySem.W.bind_fn kin self (beq_iff_eq.mp M.fn)
  have fin : ∀ u s', CR (CXE X.prog X.w) X.stack X.prog X.w (upd H1 (s1.heap.objs.size + 1) (excN C (s1.heap.objs.size + 1))) { s1 with heap := (s1.heap.push (xT us)).push (xO C s1.heap.objs.size none) }
      (fun z H2 => z = .non /\ ∃ d, H1 d = none /\ d ≠ s1.heap.objs.size + 1 /\ H2 = upd (upd (upd H1 (s1.heap.objs.size + 1) (excN C (s1.heap.objs.size + 1))) (s1.heap.objs.size + 1) (excM C (s1.heap.objs.size + 1) d)) d (.xd [(f, v)])) (fun _ _ _ => False) (.ok (.ret u)) s' ->
      u = .none /\ s'.heap.get? C = some (excClassObj nm qn C N bs bm hd sn sub ab col dd k0 k1 k2 k3 k5 "ValueError.__new__") /\ ∃ t dx, s'.heap.get? (s1.heap.objs.size + 1) = some (xO C t dx) /\ X.xe (.ref (s1.heap.objs.size + 1)) s' := fun u s' hq => by
    obtain ⟨z, H3, I3, rz, ez, d, hd1, hne, eH⟩ := I2.after hq
    subst ez eH
    have ea : upd (upd (upd H1 (s1.heap.objs.size + 1) (excN C (s1.heap.objs.size + 1))) (s1.heap.objs.size + 1) (excM C (s1.heap.objs.size + 1) d)) d (.xd [(f, v)]) (s1.heap.objs.size + 1) = some (excM C (s1.heap.objs.size + 1) d) := by rw [upd_ne hne.symm, upd_same]
    obtain ⟨⟨t, ho⟩, _, _⟩ := (show ObjOk X.prog X.w _ s'.heap _ (excM C (s1.heap.objs.size + 1) d) from I3.hok _ _ ea)
    have eD : del (upd (upd (upd H1 (s1.heap.objs.size + 1) (excN C (s1.heap.objs.size + 1))) (s1.heap.objs.size + 1) (excM C (s1.heap.objs.size + 1) d)) d (.xd [(f, v)])) (s1.heap.objs.size + 1) = upd H1 d (.xd [(f, v)]) := by
      funext b
      by_cases hb : b = s1.heap.objs.size + 1
      · unfold del
        rw [if_pos hb, hb, upd_ne hne.symm, hn1]
      · rw [del_ne hb]
        by_cases hb2 : b = d
        · rw [hb2, upd_same, upd_same]
        · rw [upd_ne hb2, upd_ne hb, upd_ne hb, upd_ne hb2]
    have I4 := I3.drop ea
    rw [eD] at I4
    refine ⟨rz, I3.bk _ _ hC, t, some d, ho, hx pins σ _ s' _ C _ _ _ (some d) I4 ho rfl rfl rfl rfl ?_ ?_ (fun d' z => ⟨_, ho, z⟩) (q1 d hd1)⟩
    · rw [upd_ne hne.symm]; exact hn1
    · exact Heap.get?_none_of_le (Nat.le_succ_of_le hsz)
  obtain ⟨hp, gg, dr, tk, os⟩ := s1
  simp only [hpl']
  refine wpAny_bind (wpAny_keeperOf_exc hC1 ?_)
  refine wpAny_bind (xi_call T1 hC1 hi hbd hlen (wpAny_call (codeAny_mono run fun r s' hq => ?_)))
  cases r with
  | error e =>
    obtain ⟨_, _, _, _, _, _, _, _, _, _, _, _, _, _, _, _, hE⟩ := hq
    exact hE.elim
  | ok fl =>
    cases fl with
    | ret u =>
      obtain ⟨e1, e2, t, dx, e3, e4⟩ := fin u s' hq
      exact ⟨e1, wpAny_bind (wpAny_holding (wpAny_point (wpAny_pure ⟨_, t, dx, rfl, e2, e3, e4⟩)))⟩
    | next => exact False.elim hq
    | brk => exact False.elim hq
    | cont => exact False.elim hq
end
def tXfld (K : PySem.W.Frag) (ta : TE) (f : Str) : TE := fun σ H Q => ta σ H fun x H1 => ∃ a C d fs i, x = .ref a /\ H1 a = some (excD C a (some d)) /\ H1 d = some (.xd fs) /\ ExcP K C f /\ fs.lookup f = some (.int i) /\ Q (.int i) H1
theorem pe_xfld {X : Cx} {e : Expr} {f : Str} {pos : Pos} {ta : TE} (he : PE X e ta) (hb : attributeBase e f X.env (eval e X.env) = eval e X.env) : PE X (.Attribute e f pos) (tXfld X.K ta f) := by
  intro pins s σ H Q I h
  refine attr_of hb (thn (he pins s σ H _ I h) fun u s1 ⟨x, H1, I1, rx, a, C, d, fs, i, ex, ea, ed, q, l, hq⟩ => ?_)
  subst ex
  obtain rfl : u = Value.ref a := rx
  obtain ⟨⟨o, ho, hc, ⟨vs, hv⟩, hd⟩, _⟩ := (show ObjOk X.prog X.w H1 s1.heap a (excD C a (some d)) from I1.hok a _ ea)
  obtain ⟨mA, hn, hr⟩ := (show ObjOk X.prog X.w H1 s1.heap d (.xd fs) from I1.hok d _ ed)
  have hf := hr f
  rw [l] at hf
  cases hm : mA f with
  | none => rw [hm] at hf; exact hf.elim
  | some v =>
    rw [hm] at hf
    obtain ⟨tk, rfl⟩ : ∃ tk, v = Value.int i tk := hf
    exact xa_get I1.kIn q ho hc hv hd hn hm rfl ⟨.int i, H1, I1.tok _, ⟨tk, rfl⟩, hq⟩
section
variable {X : Cx} {K : PySem.W.Frag}
theorem call_isiD (hK : X.K = K) : CallR X (.builtin "isinstance") (fun xs H Q => ∃ a C c cv b d, xs = [.ref a, c] /\ clsV c = some cv /\ H a = some (excD C a (some d)) /\ ExcA K C /\ PySem.W.kitOne K (.ref C) cv = some b /\ Q (.bl b) H) := by
  subst hK
  intro pins s σ H xs us Q I r h
  obtain ⟨a, C, c, cv, b, d, rfl, hc, hE, hA, e, q⟩ := h
  obtain ⟨u, u', rfl, r1, r2⟩ := vals2 r
  obtain rfl : u = Value.ref a := r1
  obtain rfl := clsV_rel hc r2
  obtain ⟨⟨o, ho, hcl, _⟩, _⟩ := (show ObjOk X.prog X.w H s.heap a (excD C a (some d)) from I.hok a _ hE)
  exact PySem.W.kia_one (kitx_exc hA (mro_cls hA.ob)) I.kIn ⟨o, ho, hcl⟩ e (fun z => nomatch z) fun tk => ⟨.bl b, H, I.tok tk, rfl, q⟩
end
end L2
namespace L2
open PySem PySem.Spec PyProof.Rows Builtin Builtin.Str
theorem vals_strs : ∀ {l : List Str} {us : List Value}, Vals (l.map V.str) us -> ∃ ts : List (Str × Tok), ts.map (·.1) = l /\ us = strValues ts
  | [], _, .nil => ⟨[], rfl, rfl⟩
  | x :: l, _, .cons (b := u) r t => by
    obtain ⟨tk, rfl⟩ : ∃ tk, u = Value.str x tk := r
    obtain ⟨ts, e1, e2⟩ := vals_strs t
    exact ⟨(x, tk) :: ts, by rw [List.map_cons, e1], by rw [e2]; rfl⟩
theorem strs_vals : ∀ (ts : List (Str × Tok)), Vals ((ts.map (·.1)).map V.str) (strValues ts)
  | [] => .nil
  | (x, t) :: ts => .cons ⟨t, rfl⟩ (strs_vals ts)
section
variable {X : Cx}
def rStarts : V -> List V -> Hp -> VK -> Prop := fun x vs H Q => ∃ a b, x = .str a /\ vs = [.str b] /\ Q (.bl (Txt.startswith a b)) H
theorem mt_starts : MtM X "str.startswith" rStarts := by
  intro pins s σ H x xs v us Q I rx rv h
  obtain ⟨a, b, rfl, rfl, q⟩ := h
  obtain ⟨t, rfl⟩ := rx
  obtain ⟨u, rfl, r⟩ := rv.one
  obtain ⟨t', rfl⟩ := r
  exact SC.startswith ⟨.bl _, H, I, rfl, q⟩
def rPart : V -> List V -> Hp -> VK -> Prop := fun x vs H Q => ∃ a b, x = .str a /\ vs = [.str b] /\ (b.length == 0) = false /\ a.length <= sizeLine /\
  ∀ p, H p = none -> Q (.ref p) (upd H p (.tup [.str (Txt.partition a b).1, .str (Txt.partition a b).2.1, .str (Txt.partition a b).2.2]))
theorem mt_part : MtM X "str.partition" rPart := by
  intro pins s σ H x xs v us Q I rx rv h
  obtain ⟨a, b, rfl, rfl, hb, ha, q⟩ := h
  obtain ⟨t, rfl⟩ := rx
  obtain ⟨u, rfl, r⟩ := rv.one
  obtain ⟨t', rfl⟩ := r
  refine call_meets F.slot_str_partition (typeIs_str _ _ _) F.entry_str_partition (F.args_str_partition_2 _ _) (meets_str_partition a b t t' hb ha) ?_
  have hn : H s.heap.objs.size = none := I.hok.fresh (Nat.le_refl _)
  have hq := q _ hn
  unfold Txt.partition at hq
  revert hq
  cases occurrences a b 0 a.length 1 with
  | nil =>
    intro hq
    refine ⟨.ref s.heap.objs.size, _, I.laid (a := s.heap.objs.size) (t' := s.toks + 1) (fun b u e => Heap.get?_push_of_some _ e) (Nat.le_refl _) ?_, rfl, hq⟩
    exact ⟨by show 3 <= sizeLine; decide, _, .cons ⟨_, rfl⟩ (.cons ⟨_, rfl⟩ (.cons ⟨_, rfl⟩ .nil)), _, Heap.get?_push_size _ rfl, rfl, _, rfl⟩
  | cons i r =>
    intro hq
    refine ⟨.ref s.heap.objs.size, _, I.laid (a := s.heap.objs.size) (t' := s.toks + 1 + 1) (fun b u e => Heap.get?_push_of_some _ e) (Nat.le_refl _) ?_, rfl, hq⟩
    exact ⟨by show 3 <= sizeLine; decide, _, .cons ⟨_, rfl⟩ (.cons ⟨_, rfl⟩ (.cons ⟨_, rfl⟩ .nil)), _, Heap.get?_push_size _ rfl, rfl, _, rfl⟩
def rSplit : V -> List V -> Hp -> VK -> Prop := fun x vs H Q => ∃ a b, x = .str a /\ vs = [.str b] /\ (b.length == 0) = false /\ a.length <= 1000000 /\ (Txt.split a b).length <= 1000000 /\ ∀ p, H p = none -> Q (.ref p) (upd H p (.lst ((Txt.split a b).map V.str)))
theorem mt_split : MtM X "str.split" rSplit := by
  intro pins s σ H x xs v us Q I rx rv h
  obtain ⟨a, b, rfl, rfl, hb, ha, hz, q⟩ := h
  obtain ⟨t, rfl⟩ := rx
  obtain ⟨u, rfl, r⟩ := rv.one
  obtain ⟨t', rfl⟩ := r
  have hn : H s.heap.objs.size = none := I.hok.fresh (Nat.le_refl _)
  have ln : ∀ {n : Nat}, n <= 1000000 -> n <= sizeLine := fun h => Nat.le_of_lt (Nat.lt_of_le_of_lt h (by decide))
  have fin : ∀ (l : List (Str × Tok)) (tk : Nat), l.map (·.1) = Txt.split a b -> EP X pins σ Q (.ref s.heap.objs.size) { s with toks := tk, heap := s.heap.push { cls := .type "list", data := .seq (strValues l).toArray } } := fun l tk e => by
    refine ⟨.ref s.heap.objs.size, _, I.laid (a := s.heap.objs.size) (t' := tk) (fun b u e => Heap.get?_push_of_some _ e) (Nat.le_refl _) ?_, rfl, q _ hn⟩
    refine ⟨by rw [List.length_map]; exact ln hz, strValues l, _, ?_, Heap.get?_push_size _ rfl⟩
    rw [<- e]; exact strs_vals l
  cases h1 : (decide (a.length < b.length) || decide (strKind a < strKind b)) with
  | true =>
    refine call_meets F.slot_str_split (typeIs_str _ _ _) F.entry_str_split (F.args_str_split_2 _ _) (meets_str_split_cannot_occur a b t t' h1) (fin [(a, t)] s.toks ?_)
    unfold Txt.split; rw [if_pos h1]; rfl
  | false =>
    cases hf : (occurrences a b 0 a.length (a.length + 1)).isEmpty with
    | true =>
      refine call_meets F.slot_str_split (typeIs_str _ _ _) F.entry_str_split (F.args_str_split_2 _ _) (meets_str_split_not_found a b t t' h1 hb hf) (fin [(a, t)] s.toks ?_)
      unfold Txt.split; rw [if_neg (by rw [h1]; decide), if_pos hf]; rfl
    | false =>
      have e : Txt.split a b = partsBetween a (occurrences a b 0 a.length (a.length + 1)) b.length := by unfold Txt.split; rw [if_neg (by rw [h1]; decide), if_neg (by rw [hf]; decide)]
      refine call_meets F.slot_str_split (typeIs_str _ _ _) F.entry_str_split (F.args_str_split_2 _ _) (meets_str_split_sep a b t t' h1 hb hf (ln ha) (by rw [<- e]; exact ln hz)) ?_
      show wants _ _ _ { s with toks := _, heap := s.heap.push { cls := .type "list", data := .seq (strsFrom s.toks (partsBetween a (occurrences a b 0 a.length (a.length + 1)) b.length)).toArray } }
      rw [strsFrom_eq]
      exact fin (numbered s.toks _) _ ((numbered_texts _ _).trans e.symm)
def rJoin (K : PySem.W.Frag) : V -> List V -> Hp -> VK -> Prop := fun x vs H Q => ∃ a p l, x = .str a /\ vs = [.ref p] /\ SqL K H p (l.map V.str) /\ JoinOk a l = true /\ Q (.str (Str.join a l)) H
theorem mt_joinK {K : PySem.W.Frag} (hK : X.K = K) : MtM X "str.join" (rJoin K) := by
  subst hK
  intro pins s σ H x xs v us Q I rx rv h
  obtain ⟨a, p, l, rfl, rfl, hp, ho, q⟩ := h
  obtain ⟨t, rfl⟩ := rx
  obtain ⟨u, rfl, r⟩ := rv.one
  cases r
  obtain ⟨its, rv, pl, hz⟩ := I.list hp
  obtain ⟨ts, e1, rfl⟩ := vals_strs rv
  have e2 : Txt.join a l = Str.join a l := StrLaws.glued_eq_join a l
  refine SC.join (Q := EP X pins σ Q) pl.isList e1 ho fun t' k => ?_
  rw [e2]
  exact ⟨.str (Str.join a l), H, I.tok _, ⟨_, rfl⟩, q⟩
theorem call_intS : CallR X (.type "int") (fun xs H Q => ∃ a n, xs = [.str a] /\ PySem.intText? a = some n /\ a.length <= 640 /\ Q (.int n) H) := by
  intro pins s σ H xs us Q I r h
  obtain ⟨a, n, rfl, hn, hl, q⟩ := h
  obtain ⟨u, rfl, ru⟩ := vals1 r
  obtain ⟨tk, rfl⟩ : ∃ tk, u = Value.str a tk := ru
  exact PySem.W.KIN.call_text (Q := EP X pins σ Q) hn hl ⟨.int n, H, I.tok _, ⟨_, rfl⟩, q⟩
def rSlS : V -> Option Int -> Option Int -> Hp -> VK -> Prop := fun x lo hi H Q => ∃ a, x = .str a /\ a.length <= sizeLine /\ Q (.str (Txt.slice a lo hi)) H
theorem sl_str : SlR X rSlS := by
  intro pins s σ H x v vl vu lo hi sl Q I rx hs pl pu h
  obtain ⟨a, rfl, ha, q⟩ := h
  obtain ⟨t, rfl⟩ := rx
  have fin : ∀ (l u : Option (Int × Tok)), l.map (·.1) = lo -> u.map (·.1) = hi -> vl = partValue l -> vu = partValue u -> wpAny (model X.prog X.w) X.A (getItem (.str a t) (.ref sl)) (EP X pins σ Q) X.xe s := fun l u e1 e2 e3 e4 => by
    subst e1 e2 e3 e4
    exact wpAny_getItem_str_slice (l := l) (u := u) (st := none) hs rfl (post_val_or_str ⟨Nat.le_trans (Txt.slice_le a _ _) ha, fun t' k => ⟨.str (Txt.slice a (l.map (·.1)) (u.map (·.1))), H, I.tok _, ⟨_, rfl⟩, q⟩⟩)
  refine ⟨"str", _, F.slot_str_getitem.lookup, typeIs_str _ _ _, ?_⟩
  cases pl with
  | none => cases pu with
    | none => exact fin none none rfl rfl rfl rfl
    | int j tj => exact fin none (some (j, tj)) rfl rfl rfl rfl
  | int i ti => cases pu with
    | none => exact fin (some (i, ti)) none rfl rfl rfl rfl
    | int j tj => exact fin (some (i, ti)) (some (j, tj)) rfl rfl rfl rfl
end
def Its (x : Str) : It := ⟨fun i _ => i < x.cps.size, fun i H y H' => H' = H /\ ∃ c, x.cps[i]? = some c /\ y = .str ⟨#[c]⟩, fun i _ => x.cps.size <= i⟩
theorem turn_str {P : Program} {w : World} {K : PySem.W.Frag} {tg : Expr} (x : Str) (it : Addr) {tn : Nat -> Heap -> Prop} (W : ∀ A : Around, A.handled = none -> Walks P w A it [it] [it] x.cps.size (SignAt x) tn)
    (hob : ∀ i h, tn i h -> ∃ o n vs, h.get? it = some o /\ o.cls = .type n /\ o.data = .fields vs /\ ["enumerate", "zip", "dict_itemiterator", "dict_reverseitemiterator", "odict_iterator", "itertools.zip_longest", "itertools.pairwise"].contains n = false)
    (hnd : ∀ (A : Around) (i : Nat) (s : Shared) (Q : Value -> Shared -> Prop) (E : Value -> Shared -> Prop), tn i s.heap -> Q (.ref it) s -> wpAny (model P w) A (pyIter (.ref it)) Q E s)
    (hdn : ∀ (A : Around) (E : Value -> Shared -> Prop), A.handled = none -> ∀ (i : Nat) (s : Shared) (Q : Option Value -> Shared -> Prop), tn i s.heap -> x.cps.size <= i -> (∀ h', (∀ b o, b ≠ it -> s.heap.get? b = some o -> h'.get? b = some o) -> Q none { s with heap := h' }) -> wpAny (model P w) A (pyNext (.ref it)) Q E s) : Turn P w K tg (Its x) [it] it tn where
  mem := by simp
  obj := fun i h st b hb => by
    have e : b = it := by simpa using hb
    subst e
    obtain ⟨o, n, vs, e, c, d, _⟩ := hob i h st
    exact ⟨o, e, fun v z => by rw [d] at z; cases z⟩
  keep := fun i h h' st k => (W (Around.mk none 0 none none 0) rfl).frame i h h' st fun b hb o e => k b hb o e
  item := by
    intro X hP hw hK hc i pins s σ H E I hf st hg
    subst hP hw hK
    obtain ⟨f0, f1, f2, f3, f4, f5⟩ := hf it (by simp)
    refine (W X.A (I.ok.hd hc)).item i s _ _ hg st fun v h' tk hv st' kk => ?_
    obtain ⟨c, u, hx, rfl⟩ := hv
    have I1 : Inv X pins σ H { s with heap := h', toks := tk } := I.turned (fun b o hb e => kk b o (by simpa using hb) e) f0 f1 f3 f4 f5
    obtain ⟨o, n, vs, e1, e2, e3, e4⟩ := hob _ _ st'
    exact ⟨_, rfl, go_of (s := { s with heap := h', toks := tk }) e1 e2 e3 e4 ⟨.str ⟨#[c]⟩, H, I1, ⟨u, rfl⟩, ⟨rfl, c, hx, rfl⟩, st', fun b hb => (hf b hb).1⟩⟩
  done := by
    intro X hP hw hK hc i pins s σ H E I hf st hg
    subst hP hw hK
    obtain ⟨f0, f1, f2, f3, f4, f5⟩ := hf it (by simp)
    exact hdn X.A E (I.ok.hd hc) i s _ st hg fun h' eb => ⟨rfl, I.turned (t' := s.toks) (fun b o hb e => eb b o hb e) f0 f1 f3 f4 f5⟩
  self := hnd
def iStr (tl : TE) : TI := fun σ H R => tl σ H fun x H1 => ∃ a, x = .str a /\ R (Its a) H1
theorem pi_str {X : Cx} {tg l : Expr} {tl : TE} (hl : PE X l tl) : PI X tg l (iStr tl) := by
  intro pins s σ H R I h
  refine thn (hl pins s σ H _ I h) fun v s1 ⟨x, H1, I1, r1, q1⟩ => ?_
  obtain ⟨a, rfl, q⟩ := q1
  obtain ⟨t, rfl⟩ := r1
  have fin : ∀ (ob : Obj) (tn : Nat -> Heap -> Prop), Turn X.prog X.w X.K tg (Its a) [s1.heap.objs.size] s1.heap.objs.size tn -> tn 0 (s1.heap.push ob) -> PIE X pins σ tg R (.ref s1.heap.objs.size) { s1 with heap := s1.heap.push ob } := fun ob tn T st =>
    ⟨s1.heap.objs.size, [s1.heap.objs.size], tn, Its a, H1, rfl, I1.kept (t' := s1.toks) fun b o e => Heap.get?_push_of_some _ e, T, st, fun b hb => by
      have e : b = s1.heap.objs.size := by simpa using hb
      subst e
      exact I1.fpOk (Nat.le_refl _) (I1.hok.fresh (Nat.le_refl _)), q⟩
  cases ha : a.cps.all (· < 128) with
  | false =>
    refine wpAny_pyIter_wide ha (fin _ (fun i h => h.IsStrIter s1.heap.objs.size "str_iterator" a t i) (turn_str a _ (fun A hA => Walks.strWide hA _ a t) (fun i h ⟨o, e, c, d⟩ => ⟨o, _, _, e, c, d, by decide⟩) (fun _ _ _ _ _ st h => wpAny_pyIter_striter_wide st h) (fun A E hA i s Q st hi k => wpAny_pyNext_wide_end hA st (by simp; omega) fun h' eb => k h' eb)) ⟨_, Heap.get?_push_size _ rfl, rfl, rfl⟩)
  | true =>
    refine wpAny_pyIter_ascii ha (fin _ (fun i h => h.IsStrIter s1.heap.objs.size "str_ascii_iterator" a t i) (turn_str a _ (fun A hA => Walks.strAscii hA _ a t) (fun i h ⟨o, e, c, d⟩ => ⟨o, _, _, e, c, d, by decide⟩) (fun _ _ _ _ _ st h => wpAny_pyIter_striter_ascii st h) (fun A E hA i s Q st hi k => wpAny_pyNext_ascii_end hA st (by simp; omega) fun h' eb => k h' eb)) ⟨_, Heap.get?_push_size _ rfl, rfl, rfl⟩)
end L2
namespace L2
open PySem PySem.Spec PyProof.Rows
section
variable {K : PySem.W.Frag} {fr : List (Option Nat)} {g : TG} {te : TE} {D : Addr} {σ : St} {H1 : Hp} {Q : VK}
theorem comp_list_map {a : Addr} {xs : List V} (f : V -> V) (hq : SqL K H1 a xs) (hn : xs.length <= sizeLine) (hD : H1 D = none)
    (hs : ∀ (i : Nat) x H (R : VK), xs[i]? = some x -> Same H1 H -> (∀ H', Same H H' -> R (f x) H') -> g x (carry fr σ) H fun σ2 H2 => Wk (carry fr σ) σ2 /\ te σ2 H2 R)
    (q : ∀ H', Same H1 H' -> H' D = some (.lst (xs.map f)) -> Q (.ref D) H') : tTurns fr g tYes te D (Itl K a) σ H1 Q := by
  refine comp_list_rel (fun _ i y => ∀ x, xs[i]? = some x -> y = f x) (fun _ _ _ _ _ h => h) hq hn hD (fun i x H R hx s _ k => hs i x H R hx s fun H' s' => k _ _ s' fun x' hx' => by rw [hx] at hx'; cases hx'; rfl) fun ys H' s e hl hy => ?_
  have : ys = xs.map f := by
    refine List.ext_getElem? fun i => ?_
    rw [List.getElem?_map]
    by_cases hi : i < ys.length
    · rw [List.getElem?_eq_getElem hi, List.getElem?_eq_getElem (show i < xs.length by omega)]
      rw [hy i _ (List.getElem?_eq_getElem hi) _ (List.getElem?_eq_getElem (show i < xs.length by omega))]
      rfl
    · rw [List.getElem?_eq_none (by omega), List.getElem?_eq_none (by omega)]; rfl
  rw [this] at e
  exact q H' s e
theorem comp_str_map {x : Str} (f : Nat -> V) (hn : x.cps.size <= sizeLine) (hD : H1 D = none)
    (hs : ∀ c H (R : VK), c ∈ x.cps.toList -> Same H1 H -> (∀ H', Same H H' -> R (f c) H') -> g (.str ⟨#[c]⟩) (carry fr σ) H fun σ2 H2 => Wk (carry fr σ) σ2 /\ te σ2 H2 R)
    (q : ∀ H', Same H1 H' -> H' D = some (.lst (x.cps.toList.map f)) -> Q (.ref D) H') : tTurns fr g tYes te D (Its x) σ H1 Q := by
  refine comp_seq (n := x.cps.size) (fun i ys H => Same H1 H /\ H D = some (.lst ys) /\ ys = (x.cps.toList.take i).map f) ⟨Same.new hD _, upd_same, by simp⟩ (fun i ys H hi ⟨_, e, p⟩ => ⟨e, by rw [p, List.length_map, List.length_take]; omega⟩) (fun i ys H hi p => hi) (fun ys H p => Nat.le_refl _) hn (fun i ys H y H' hi ⟨e1, e2, e3⟩ z => ?_) (fun ys H ⟨e1, e2, e3⟩ => ?_)
  · obtain ⟨rfl, c, hc, rfl⟩ := z
    have hc' : x.cps.toList[i]? = some c := by simpa using hc
    refine hs c _ _ (List.mem_of_getElem? hc') e1 (fun H2 s2 => ⟨s2 _ _ e2, (e1.trans s2).upd_old hD, upd_same, ?_⟩)
    rw [List.take_add_one, hc', List.map_append, <- e3]; rfl
  · refine q H e1 ?_
    rw [e2, e3, List.take_of_length_le (by simp)]
end
theorem pe_bmK {X : Cx} {K : PySem.W.Frag} {o e : Expr} {es : List Expr} {to : TE} {t : TA} {name : Str} {apos cpos : Pos} {T id : String} {r : V -> List V -> Hp -> VK -> Prop} (hK : X.K = K) (pa : PlainAttrs T) (slot : Slot T name id) (hty : typeOf (.builtin id) = pure (.type "method_descriptor")) (hm : MtM X id r) (ho : PE X o to) (ha : PA X (e :: es) t)
    (hbase : attributeBase o name X.env (eval o X.env) = eval o X.env := by rfl)
    (hfew : ((backTo cpos (starEach (e :: es) X.env)).all (fun x => !x.1) && (backToKw cpos (keywordEach [] X.env)).all (fun x => x.1.isSome) && decide ((e :: es).length + ([] : List Keyword).length + (if ([] : List Keyword).isEmpty then 0 else 1) < 30)) = true := by rfl)
    (hline : (apos.endLine == cpos.line) = true := by rfl) (hs : starEach (e :: es) X.env = (false, eval e X.env) :: starEach es X.env := by rfl) (hplain : (backTo cpos (starEach es X.env)).any (·.1) = false := by rfl) :
    PE X (.Call (.Attribute o name apos) (e :: es) [] cpos) (tBM K T r to t) := by
  subst hK
  exact pe_bm pa slot hty hm ho ha hbase hfew hline hs hplain
theorem star_tup (es : List Expr) (x : Nat) (pos : Pos) (rest : List Expr) (env : Env) : starEach (.Tuple es x pos :: rest) env = (false, eval (.Tuple es x pos) env) :: starEach rest env := rfl
theorem star_lst (es : List Expr) (pos : Pos) (rest : List Expr) (env : Env) : starEach (.List es pos :: rest) env = (false, eval (.List es pos) env) :: starEach rest env := rfl
theorem star_con (c : Const) (k : Nat) (pos : Pos) (rest : List Expr) (env : Env) : starEach (.Constant c k pos :: rest) env = (false, eval (.Constant c k pos) env) :: starEach rest env := rfl
theorem pa_tupE {X : Cx} {es rest : List Expr} {x : Nat} {pos : Pos} {te : TE} {t : TA} (ha : PE X (.Tuple es x pos) te) (hr : PA X rest t) : PA X (.Tuple es x pos :: rest) (tCons te t) := pa_cons ha hr (star_tup es x pos rest X.env)
theorem pa_lstE {X : Cx} {es rest : List Expr} {pos : Pos} {te : TE} {t : TA} (ha : PE X (.List es pos) te) (hr : PA X rest t) : PA X (.List es pos :: rest) (tCons te t) := pa_cons ha hr (star_lst es pos rest X.env)
theorem pa_conE {X : Cx} {rest : List Expr} {c : Const} {k : Nat} {pos : Pos} {te : TE} {t : TA} (ha : PE X (.Constant c k pos) te) (hr : PA X rest t) : PA X (.Constant c k pos :: rest) (tCons te t) := pa_cons ha hr (star_con c k pos rest X.env)
theorem pe_gc {X : Cx} {x : Str} {v : V} {pos : Pos} (h : ∃ u, X.mg x = some u /\ RelV v u) (hg : Gl X x) (hd : (x == ("__debug__" : Str)) = false := by decide) : PE X (.Name x pos) (tC v) := by
  obtain ⟨u, hm, r⟩ := h
  exact pe_glob hg hm r hd
end L2
namespace Mw
open PySem L2
abbrev cs (w : Str) : List Nat := w.cps.toList
theorem str_ext {a b : Str} (h : cs a = cs b) : a = b := by
  obtain ⟨⟨a⟩⟩ := a
  obtain ⟨⟨b⟩⟩ := b
  cases h
  rfl
theorem cs_append (a b : Str) : cs (a ++ b) = cs a ++ cs b := by
  show (a.cps ++ b.cps).toList = _
  rw [Array.toList_append]
theorem cs_length (w : Str) : (cs w).length = w.length := Array.length_toList
def jn (c : Nat) : List (List Nat) -> List Nat
  | [] => []
  | [w] => w
  | w :: v :: r => w ++ c :: jn c (v :: r)
theorem cs_join (c : Nat) : ∀ l : List Str, cs (Str.join ⟨#[c]⟩ l) = jn c (l.map cs)
  | [] => rfl
  | [w] => rfl
  | w :: v :: r => by
    show cs (w ++ ⟨#[c]⟩ ++ Str.join ⟨#[c]⟩ (v :: r)) = _
    rw [cs_append, cs_append, cs_join c (v :: r)]
    show cs w ++ [c] ++ _ = cs w ++ c :: _
    rw [List.append_assoc]; rfl
theorem cut_uniq {c : Nat} : ∀ {a b x y : List Nat}, c ∉ a -> c ∉ b -> a ++ c :: x = b ++ c :: y -> a = b /\ x = y
  | [], [], x, y, _, _, h => by simpa using h
  | [], d :: b, x, y, _, hb, h => by
    injection h with h1 _
    exact absurd (by rw [h1]; exact List.mem_cons_self ..) hb
  | d :: a, [], x, y, ha, _, h => by
    injection h with h1 _
    exact absurd (by rw [<- h1]; exact List.mem_cons_self ..) ha
  | d :: a, e :: b, x, y, ha, hb, h => by
    injection h with h1 h2
    obtain ⟨r1, r2⟩ := cut_uniq (fun z => ha (List.mem_cons_of_mem _ z)) (fun z => hb (List.mem_cons_of_mem _ z)) h2
    exact ⟨by rw [h1, r1], r2⟩
theorem jn_uniq {c : Nat} : ∀ {l s : List (List Nat)}, l ≠ [] -> s ≠ [] -> (∀ w ∈ l, c ∉ w) -> (∀ w ∈ s, c ∉ w) -> jn c l = jn c s -> l = s
  | [], _, h, _, _, _, _ => absurd rfl h
  | _, [], _, h, _, _, _ => absurd rfl h
  | [w], [v], _, _, _, _, h => by
    have : w = v := h
    rw [this]
  | [w], v :: v2 :: r, _, _, hl, _, h => by
    have h : w = v ++ c :: jn c (v2 :: r) := h
    exact absurd (by rw [h]; simp) (hl w (List.mem_cons_self ..))
  | w :: w2 :: r, [v], _, _, _, hs, h => by
    have h : w ++ c :: jn c (w2 :: r) = v := h
    exact absurd (by rw [<- h]; simp) (hs v (List.mem_cons_self ..))
  | w :: w2 :: r, v :: v2 :: t, _, _, hl, hs, h => by
    obtain ⟨h1, h2⟩ := cut_uniq (hl w (List.mem_cons_self ..)) (hs v (List.mem_cons_self ..)) h
    rw [h1, jn_uniq (by simp) (by simp) (fun z hz => hl z (List.mem_cons_of_mem _ hz)) (fun z hz => hs z (List.mem_cons_of_mem _ hz)) h2]
theorem split_join {c : Nat} {l : List Str} (hne : l ≠ []) (hf : ∀ w ∈ l, c ∉ cs w) : Txt.split (Str.join ⟨#[c]⟩ l) ⟨#[c]⟩ = l := by
  have h1 := StrLaws.join_split (Str.join ⟨#[c]⟩ l) ⟨#[c]⟩
  have h2 := StrLaws.split_free (Str.join ⟨#[c]⟩ l) c
  have h3 := PyProof.Rows.split_pos (Str.join ⟨#[c]⟩ l) ⟨#[c]⟩
  generalize Txt.split (Str.join ⟨#[c]⟩ l) ⟨#[c]⟩ = s at *
  have h4 : jn c (s.map cs) = jn c (l.map cs) := by rw [<- cs_join, <- cs_join, h1]
  have h5 := jn_uniq (by intro z; rw [List.map_eq_nil_iff] at z; rw [z] at h3; exact absurd h3 (by decide)) (by intro z; exact hne (List.map_eq_nil_iff.mp z)) (fun w hw => by
    obtain ⟨v, hv, rfl⟩ := List.mem_map.mp hw
    exact h2 v hv) (fun w hw => by
    obtain ⟨v, hv, rfl⟩ := List.mem_map.mp hw
    exact hf v hv) h4
  have inj : ∀ {a b : List Str}, a.map cs = b.map cs -> a = b := fun {a} => by
    induction a with
    | nil => intro b h; cases b with
      | nil => rfl
      | cons _ _ => cases h
    | cons x a ih => intro b h; cases b with
      | nil => cases h
      | cons y b =>
        injection h with z1 z2
        rw [str_ext z1, ih z2]
  exact inj h5
theorem part_none {c : Nat} {w : Str} (h : c ∉ cs w) : Txt.partition w ⟨#[c]⟩ = (w, Str.empty, Str.empty) := by
  unfold Txt.partition
  rcases StrLaws.occ_head w ⟨#[c]⟩ 1 (Nat.le_refl _) with ⟨e, _⟩ | ⟨i, r, e, ha, _⟩
  · rw [e]
  · exact absurd (List.mem_of_getElem? ((StrLaws.subAt_one w c i).mp ha)) h
theorem strSub_cs (x : Str) (i j : Nat) : cs (Builtin.Str.strSub x i j) = ((cs x).drop i).take (j - i) := StrLaws.strSub_toList x i j
theorem part_some {c : Nat} {w a b : Str} (h : cs w = cs a ++ c :: cs b) (ha : c ∉ cs a) : Txt.partition w ⟨#[c]⟩ = (a, ⟨#[c]⟩, b) := by
  have hat : (cs w)[(cs a).length]? = some c := by rw [h, List.getElem?_append_right (Nat.le_refl _), Nat.sub_self]; rfl
  have hlen : w.length = (cs a).length + ((cs b).length + 1) := by rw [<- cs_length, h, List.length_append]; rfl
  unfold Txt.partition
  rcases StrLaws.occ_head w ⟨#[c]⟩ 1 (Nat.le_refl _) with ⟨_, hn⟩ | ⟨i, r, e, hi, hk⟩
  · exact absurd ((StrLaws.subAt_one w c (cs a).length).mpr hat) (hn _)
  · have hi' := (StrLaws.subAt_one w c i).mp hi
    have : i = (cs a).length := by
      rcases Nat.lt_trichotomy i (cs a).length with z | z | z
      · have h2 : (cs w)[i]? = some c := hi'
        rw [h, List.getElem?_append_left z] at h2
        exact absurd (List.mem_of_getElem? h2) ha
      · exact z
      · exact absurd ((StrLaws.subAt_one w c (cs a).length).mpr hat) (hk _ z)
    subst this
    rw [e]
    have e1 : Builtin.Str.strSub w 0 (cs a).length = a := str_ext (by rw [strSub_cs, h]; simp)
    have e2 : Builtin.Str.strSub w ((cs a).length + (⟨#[c]⟩ : Str).length) w.length = b := str_ext (by
      rw [strSub_cs, hlen]
      show ((cs w).drop ((cs a).length + 1)).take _ = _
      rw [h, <- List.drop_drop, List.drop_left]
      show (cs b).take _ = _
      exact List.take_of_length_le (by show _ <= _ - (_ + 1); omega))
    show (Builtin.Str.strSub w 0 (cs a).length, _, Builtin.Str.strSub w ((cs a).length + (⟨#[c]⟩ : Str).length) w.length) = _
    rw [e1, e2]
theorem starts_cs (x y : Str) : Txt.startswith x y = (decide (y.length <= x.length) && ((cs x).take y.length == cs y)) := by
  unfold Txt.startswith
  rw [StrLaws.subAt_eq, List.drop_zero, Nat.zero_add]
theorem slice1_cs {w : Str} (h : 1 <= w.length) : cs (Txt.slice w (some 1) none) = (cs w).drop 1 := by
  have e : Txt.slice w (some 1) none = StrLaws.sliceText w (some 1) none := rfl
  rw [e, StrLaws.sliceText_from ⟨by decide, by have := cs_length w; show (1 : Int) <= ((cs w).length : Int); omega⟩]
  show ((cs w).drop 1).take _ = _
  exact List.take_of_length_le (by rw [List.length_drop]; show (cs w).length - 1 <= (((cs w).length : Int) - 1).toNat; omega)
def dg (n : Nat) : List Nat := (Nat.toDigits 10 n).map Char.toNat
theorem dg_small {n : Nat} (h : n < 10) : dg n = [48 + n] := by
  unfold dg
  rw [Nat.toDigits_of_lt_base h]
  match n, h with
  | 0, _ => rfl
  | 1, _ => rfl
  | 2, _ => rfl
  | 3, _ => rfl
  | 4, _ => rfl
  | 5, _ => rfl
  | 6, _ => rfl
  | 7, _ => rfl
  | 8, _ => rfl
  | 9, _ => rfl
theorem dg_step {n : Nat} (h : 10 <= n) : dg n = dg (n / 10) ++ [48 + n % 10] := by
  have hm : n % 10 < 10 := Nat.mod_lt n (by decide)
  have t : Nat.toDigits 10 (n / 10) ++ Nat.toDigits 10 (n % 10) = Nat.toDigits 10 (10 * (n / 10) + n % 10) := Nat.toDigits_append_toDigits (by decide) (by omega) hm
  rw [Nat.div_add_mod] at t
  rw [<- dg_small hm]
  unfold dg
  rw [<- t, List.map_append]
theorem dg_facts (n : Nat) : dg n ≠ [] /\ NumText.AllDigits (dg n) /\ (n ≠ 0 -> (dg n)[0]? ≠ some 48) := by
  induction n using Nat.strongRecOn with
  | _ n ih =>
    by_cases h : n < 10
    · rw [dg_small h]
      refine ⟨by simp, fun c hc => ?_, fun hn => ?_⟩
      · have : c = 48 + n := by simpa using hc
        omega
      · show some (48 + n) ≠ some 48
        intro z; injection z with z; omega
    · obtain ⟨h1, h2, h3⟩ := ih (n / 10) (by omega)
      rw [dg_step (by omega)]
      refine ⟨by simp, fun c hc => ?_, fun _ => ?_⟩
      · rcases List.mem_append.mp hc with z | z
        · exact h2 c z
        · have : c = 48 + n % 10 := by simpa using z
          have := Nat.mod_lt n (show 0 < 10 by decide)
          omega
      · rw [List.getElem?_append_left (List.length_pos_iff.mpr h1)]
        exact h3 (by omega)
theorem dg_len : ∀ (k n : Nat), n < 10 ^ (k + 1) -> (dg n).length <= k + 1
  | 0, n, h => by rw [dg_small (by simpa using h)]; exact Nat.le_refl _
  | k + 1, n, h => by
    by_cases h1 : n < 10
    · rw [dg_small h1]; show 1 <= k + 1 + 1; omega
    · rw [dg_step (by omega), List.length_append]
      have := dg_len k (n / 10) (by rw [Nat.pow_succ] at h; omega)
      show _ + 1 <= k + 1 + 1
      omega
theorem dg_val (n : Nat) : NumText.digitsVal (dg n) = n := PySem.W.KIN.val_back n
theorem cs_nat (n : Nat) : cs (Str.ofString (toString (n : Int))) = dg n := PySem.W.KIN.signs_num n
theorem cs_neg (n : Nat) : cs (Str.ofString (toString (-((n + 1 : Nat) : Int)))) = 45 :: dg (n + 1) := by
  show (Str.ofString _).cps.toList = _
  rw [PyProof.Rows.signs_ofString]
  have e : toString (-((n + 1 : Nat) : Int)) = "-" ++ Nat.repr (n + 1) := rfl
  rw [e, String.toList_append, List.map_append, Nat.toList_repr]
  rfl
theorem read_nat {w : Str} {n : Nat} (h : cs w = dg n) (hn : n < 100000) : PySem.intText? w = some (n : Int) := by
  have hl := dg_len 4 n (by omega)
  have e := PySem.intText_digits (x := w) (by show NumText.AllDigits (cs w); rw [h]; exact (dg_facts n).2.1) (by show cs w ≠ []; rw [h]; exact (dg_facts n).1) (by rw [<- cs_length, h]; omega)
  rw [e]
  show some ((NumText.digitsVal (cs w) : Nat) : Int) = _
  rw [h, dg_val]
theorem read_neg {w : Str} {n : Nat} (h : cs w = 45 :: dg n) (hn : n < 100000) : PySem.intText? w = some (-(n : Int)) := by
  have hl := dg_len 4 n (by omega)
  have e := PySem.intText_neg (x := w) h (dg_facts n).2.1 (dg_facts n).1 (by rw [<- cs_length, h]; show _ + 1 <= _; omega)
  rw [e, dg_val]
end Mw
namespace L2
open PySem PySem.Spec PyProof.Rows
section
variable {K : PySem.W.Frag} {fr : List (Option Nat)} {g : TG} {tc : TT} {te : TE} {D : Addr} {σ : St} {H1 : Hp} {Q : VK}
theorem comp_str_filter {x : Str} (p : Nat -> Bool) (f : Nat -> V) (hn : x.cps.size <= sizeLine) (hD : H1 D = none)
    (hs : ∀ c H (R : VK) (R' : Hp -> Prop), c ∈ x.cps.toList -> Same H1 H -> (p c = true -> ∀ H', Same H H' -> R (f c) H') -> (p c = false -> ∀ H', Same H H' -> R' H') -> g (.str ⟨#[c]⟩) (carry fr σ) H fun σ2 H2 => Wk (carry fr σ) σ2 /\ tc σ2 H2 fun b H3 => if b = true then te σ2 H3 R else R' H3)
    (q : ∀ H', Same H1 H' -> H' D = some (.lst ((x.cps.toList.filter p).map f)) -> Q (.ref D) H') : tTurns fr g tc te D (Its x) σ H1 Q := by
  refine comp_seq (n := x.cps.size) (fun i ys H => Same H1 H /\ H D = some (.lst ys) /\ ys = ((x.cps.toList.take i).filter p).map f) ⟨Same.new hD _, upd_same, by simp⟩ (fun i ys H hi ⟨_, e, z⟩ => ⟨e, by
      rw [z, List.length_map]
      have := List.length_filter_le p (x.cps.toList.take i)
      rw [List.length_take] at this
      omega⟩) (fun i ys H hi p => hi) (fun ys H p => Nat.le_refl _) hn (fun i ys H y H' hi ⟨e1, e2, e3⟩ z => ?_) (fun ys H ⟨e1, e2, e3⟩ => ?_)
  · obtain ⟨rfl, c, hc, rfl⟩ := z
    have hc' : x.cps.toList[i]? = some c := by simpa using hc
    refine hs c _ _ _ (List.mem_of_getElem? hc') e1 (fun hp H2 s2 => ⟨s2 _ _ e2, (e1.trans s2).upd_old hD, upd_same, ?_⟩) (fun hp H2 s2 => ⟨e1.trans s2, s2 _ _ e2, ?_⟩)
    · rw [List.take_add_one, hc', List.filter_append, List.map_append, <- e3]
      simp [hp]
    · rw [List.take_add_one, hc', List.filter_append, List.map_append, <- e3]
      simp [hp]
  · refine q H e1 ?_
    rw [e2, e3, List.take_of_length_le (by simp)]
end
structure DA (X : Cx) (es : List Expr) (t : TA) : Prop where
  h : PA X es t
theorem da_nil {X : Cx} : DA X [] tNil := ⟨pa_nil⟩
theorem da_str {X : Cx} {rest : List Expr} {x : Str} {k : Nat} {pos : Pos} {t : TA} (hr : DA X rest t) : DA X (.Constant (.str x) k pos :: rest) (tCons (tC (.str x)) t) := ⟨pa_conE pe_str hr.h⟩
theorem pe_lstD {X : Cx} {es : List Expr} {pos : Pos} {t : TA} (h : DA X es t) : PE X (.List es pos) (tLst t) := pe_lst h.h
end L2
namespace L2
open PySem PySem.Spec PyProof.Rows
def isNon : V -> Bool
  | .non => true
  | _ => false
def isNonU : Value -> Bool
  | .none => true
  | _ => false
section
variable {X : Cx} {K : PySem.W.Frag}
theorem any_non {H : Hp} : ∀ {xs : List V} {us : List Value}, Vals xs us -> (∀ v ∈ xs, v = .non \/ ∃ t ys, v = .ref t /\ SqT K H t ys) -> us.any isNonU = xs.any isNon
  | _, _, .nil, _ => rfl
  | y :: xs, u :: us, .cons r t, f => by
    rw [List.any_cons, List.any_cons, any_non t fun v hv => f v (List.mem_cons_of_mem _ hv)]
    rcases f y List.mem_cons_self with rfl | ⟨a, ys, rfl, _⟩
    · cases r; rfl
    · cases r; rfl
theorem op_inNon (hK : X.K = K) (hu : X.A.units + 8 < cLine) : OpR X (compareOp .In) (fun x y H Q => ∃ p xs, x = .non /\ y = .ref p /\ SqL K H p xs /\ (∀ v ∈ xs, v = .non \/ ∃ t ys, v = .ref t /\ SqT K H t ys) /\ Q (.bl (xs.any isNon)) H) := by
  subst hK
  intro pins s σ H x y v u Q I rx ry h
  obtain ⟨p, xs, rfl, rfl, hq, hv, q⟩ := h
  cases ry
  cases rx
  obtain ⟨its, r, pl, hz⟩ := I.list hq
  have mem : ∀ {xs : List V} {us : List Value}, Vals xs us -> (∀ v ∈ xs, v = .non \/ ∃ t ys, v = .ref t /\ SqT X.K H t ys) -> ∀ u ∈ us, SeqAt.EqAt X.A.in1 s u .none (isNonU u) := by
    intro xs us r
    induction r with
    | nil => intro _ u hu; cases hu
    | cons r t ih =>
      intro hv u' hu'
      rcases List.mem_cons.mp hu' with rfl | hu'
      · rcases hv _ List.mem_cons_self with rfl | ⟨a, ys, rfl, ha⟩
        · cases r; exact SeqAt.EqAt.same _
        · cases r
          obtain ⟨jts, r2, p2, _⟩ := I.tuple ha
          exact SeqAt.EqAt.tuple_none p2 (by show X.A.units + 1 < cLine; omega)
      · exact ih (fun v hv' => hv v (List.mem_cons_of_mem _ hv')) u' hu'
  refine SeqAt.in_listAt isNonU pl.isList (fun w hw => mem r hv w (by simpa using hw)) ⟨.bl _, H, I, rfl, ?_⟩
  rw [show its.toArray.any isNonU = its.any isNonU by simp, any_non r hv]
  exact q
end
section
variable {prog : Program} {w : World} {A : Around} {E : Value -> Shared -> Prop} {s : Shared} {l : Addr} {xs : Array (Int × Tok)}
theorem max_intTuple {Q : Value -> Shared -> Prop} (hh : A.handled = none) (hl : s.heap.IsTuple l (intItems xs)) (hne : 0 < xs.size)
    (h : ∀ v h' tk, (intItems xs)[argBest (fun i j => decide (numAt xs i > numAt xs j)) (xs.size - 1)]? = some v -> (∀ b o, s.heap.get? b = some o -> h'.get? b = some o) -> Q v { s with heap := h', toks := tk }) :
    wpAny (model prog w) A (call (.builtin "max") [.ref l]) Q E s := by
  have hlt : l < s.heap.objs.size := by obtain ⟨_, e, _⟩ := hl; exact Heap.lt_size e
  refine call_max_walk (wpAny_pyIter_tuple hl ?_)
  refine ⟨s.heap.objs.size, [s.heap.objs.size, l], [s.heap.objs.size], _, _, _, _, rfl, Walks.tuple (A := A.in1) hh _ l (Nat.ne_of_lt hlt) (intItems xs), ⟨⟨_, Heap.get?_push_size _ rfl, rfl, rfl⟩, hl.push _⟩, fun c hc => ?_, by simpa [intItems] using hne, CmpOf.ints_gt (numAt xs) (fun _ _ => intItems_at), fun v h' tk hP hk => ?_⟩
  · show c < (s.heap.push _).objs.size
    rw [Heap.size_push]
    rcases List.mem_cons.mp hc with rfl | hc
    · exact Nat.lt_succ_self _
    · rcases List.mem_cons.mp hc with rfl | hc
      · exact Nat.lt_succ_of_lt hlt
      · cases hc
  · refine h v h' tk (by simpa [intItems] using hP) fun b o e => ?_
    refine hk b o (fun hm => ?_) (Heap.get?_push_of_some _ e)
    rcases List.mem_cons.mp hm with e1 | hm
    · exact absurd (e1 ▸ Heap.lt_size e) (Nat.lt_irrefl _)
    · cases hm
theorem min_intTuple {Q : Value -> Shared -> Prop} (hh : A.handled = none) (hl : s.heap.IsTuple l (intItems xs)) (hne : 0 < xs.size)
    (h : ∀ v h' tk, (intItems xs)[argBest (fun i j => decide (numAt xs i < numAt xs j)) (xs.size - 1)]? = some v -> (∀ b o, s.heap.get? b = some o -> h'.get? b = some o) -> Q v { s with heap := h', toks := tk }) :
    wpAny (model prog w) A (call (.builtin "min") [.ref l]) Q E s := by
  have hlt : l < s.heap.objs.size := by obtain ⟨_, e, _⟩ := hl; exact Heap.lt_size e
  refine call_min_walk (wpAny_pyIter_tuple hl ?_)
  refine ⟨s.heap.objs.size, [s.heap.objs.size, l], [s.heap.objs.size], _, _, _, _, rfl, Walks.tuple (A := A.in1) hh _ l (Nat.ne_of_lt hlt) (intItems xs), ⟨⟨_, Heap.get?_push_size _ rfl, rfl, rfl⟩, hl.push _⟩, fun c hc => ?_, by simpa [intItems] using hne, CmpOf.ints_lt (numAt xs) (fun _ _ => intItems_at), fun v h' tk hP hk => ?_⟩
  · show c < (s.heap.push _).objs.size
    rw [Heap.size_push]
    rcases List.mem_cons.mp hc with rfl | hc
    · exact Nat.lt_succ_self _
    · rcases List.mem_cons.mp hc with rfl | hc
      · exact Nat.lt_succ_of_lt hlt
      · cases hc
  · refine h v h' tk (by simpa [intItems] using hP) fun b o e => ?_
    refine hk b o (fun hm => ?_) (Heap.get?_push_of_some _ e)
    rcases List.mem_cons.mp hm with e1 | hm
    · exact absurd (e1 ▸ Heap.lt_size e) (Nat.lt_irrefl _)
    · cases hm
end
section
variable {X : Cx} {K : PySem.W.Frag}
theorem call_maxT (hK : X.K = K) (hc : X.calm = true) : CallR X (.builtin "max") (fun xs H Q => ∃ (a : Addr) (ns : List Int), xs = [.ref a] /\ SqT K H a (ns.map V.int) /\ 0 < ns.length /\ ∀ m, m ∈ ns -> (∀ b ∈ ns, b <= m) -> Q (.int m) H) := by
  subst hK
  intro pins s σ H xs us Q I r h
  obtain ⟨a, ns, rfl, hs, hn, q⟩ := h
  obtain ⟨u, rfl, r1⟩ := vals1 r
  obtain rfl : u = Value.ref a := r1
  obtain ⟨its, rv, p, hz⟩ := I.tuple hs
  obtain ⟨zs, e⟩ := (intsAre_of rv).allInts.items
  have hns : ns = zs.toList.map (·.1) := by rw [<- (intsAre_of rv).numsOf, <- nums_intItems, <- e]
  have hsz : 0 < zs.size := by have h3 := hn; rw [hns, List.length_map, Array.length_toList] at h3; exact h3
  have hl := p
  rw [e] at hl
  refine max_intTuple (I.ok.hd hc) hl hsz fun v h' tk hv hk => ?_
  obtain ⟨t, rfl⟩ := intItems_at hv
  obtain ⟨h1, h2⟩ := argBest_gt (numAt zs) (zs.size - 1)
  have e3 : ∀ k, k < zs.size -> numAt zs k ∈ ns := fun k hk => by
    rw [hns]
    refine List.mem_map.mpr ⟨zs[k], by simp, ?_⟩
    simp [numAt, hk]
  have e4 : ∀ b ∈ ns, ∃ k, k < zs.size /\ numAt zs k = b := fun b hb => by
    rw [hns] at hb
    obtain ⟨y, hy, rfl⟩ := List.mem_map.mp hb
    obtain ⟨k, hk, hk2⟩ := List.getElem_of_mem hy
    have hk' : k < zs.size := by simpa using hk
    refine ⟨k, hk', ?_⟩
    simp [numAt, hk', <- hk2]
  refine ⟨.int (numAt zs (argBest (fun i j => decide (numAt zs i > numAt zs j)) (zs.size - 1))), H, I.kept hk, ⟨_, rfl⟩, q _ (e3 _ (by omega)) fun b hb => ?_⟩
  obtain ⟨k, hk1, rfl⟩ := e4 b hb
  exact h2 k (by omega)
theorem call_minT (hK : X.K = K) (hc : X.calm = true) : CallR X (.builtin "min") (fun xs H Q => ∃ (a : Addr) (ns : List Int), xs = [.ref a] /\ SqT K H a (ns.map V.int) /\ 0 < ns.length /\ ∀ m, m ∈ ns -> (∀ b ∈ ns, m <= b) -> Q (.int m) H) := by
  subst hK
  intro pins s σ H xs us Q I r h
  obtain ⟨a, ns, rfl, hs, hn, q⟩ := h
  obtain ⟨u, rfl, r1⟩ := vals1 r
  obtain rfl : u = Value.ref a := r1
  obtain ⟨its, rv, p, hz⟩ := I.tuple hs
  obtain ⟨zs, e⟩ := (intsAre_of rv).allInts.items
  have hns : ns = zs.toList.map (·.1) := by rw [<- (intsAre_of rv).numsOf, <- nums_intItems, <- e]
  have hsz : 0 < zs.size := by have h3 := hn; rw [hns, List.length_map, Array.length_toList] at h3; exact h3
  have hl := p
  rw [e] at hl
  refine min_intTuple (I.ok.hd hc) hl hsz fun v h' tk hv hk => ?_
  obtain ⟨t, rfl⟩ := intItems_at hv
  obtain ⟨h1, h2⟩ := argBest_lt (numAt zs) (zs.size - 1)
  have e3 : ∀ k, k < zs.size -> numAt zs k ∈ ns := fun k hk => by
    rw [hns]
    refine List.mem_map.mpr ⟨zs[k], by simp, ?_⟩
    simp [numAt, hk]
  have e4 : ∀ b ∈ ns, ∃ k, k < zs.size /\ numAt zs k = b := fun b hb => by
    rw [hns] at hb
    obtain ⟨y, hy, rfl⟩ := List.mem_map.mp hb
    obtain ⟨k, hk, hk2⟩ := List.getElem_of_mem hy
    have hk' : k < zs.size := by simpa using hk
    refine ⟨k, hk', ?_⟩
    simp [numAt, hk', <- hk2]
  refine ⟨.int (numAt zs (argBest (fun i j => decide (numAt zs i < numAt zs j)) (zs.size - 1))), H, I.kept hk, ⟨_, rfl⟩, q _ (e3 _ (by omega)) fun b hb => ?_⟩
  obtain ⟨k, hk1, rfl⟩ := e4 b hb
  exact h2 k (by omega)
end
end L2
namespace L2
open PySem PySem.Spec PyProof.Rows
section
variable {X : Cx}
theorem call_anyB (hc : X.calm = true) : CallR X (.builtin "any") (fun xs H Q => ∃ (a : Addr) (bs : List Bool), xs = [.ref a] /\ SqL X.K H a (bs.map V.bl) /\ Q (.bl (bs.any id)) H) := by
  intro pins s σ H xs us Q I r h
  obtain ⟨a, bs, rfl, hs, q⟩ := h
  obtain ⟨u, rfl, r1⟩ := vals1 r
  obtain rfl : u = Value.ref a := r1
  obtain ⟨its, rv, p, hz⟩ := I.list hs
  have hb := bools_of rv
  have hlt : a < s.heap.objs.size := by obtain ⟨_, e, _⟩ := p.isList; exact Heap.lt_size e
  refine call_any_walk (wpAny_pyIter_list p.isList ?_)
  refine ⟨s.heap.objs.size, [s.heap.objs.size, a], [s.heap.objs.size], its.toArray.size, _, _, fun i => (bs[i]?).getD false, rfl, Walks.list (A := X.A.in1) (I.ok.hd hc) _ a (Nat.ne_of_lt hlt) its.toArray,
    ⟨⟨_, Heap.get?_push_size _ rfl, rfl, rfl⟩, p.isList.push _⟩, fun i v s' Q' E' hP hQ => ?_, fun h' tk hk => ?_⟩
  · obtain ⟨b, e, rfl⟩ := hb.get i v (by simpa using hP)
    simp only [e, Option.getD_some] at hQ
    exact wpAny_truthy_bool hQ
  · have e : ((List.range its.toArray.size).any fun i => (bs[i]?).getD false) = bs.any id := by
      rw [List.size_toArray, hb.length]; exact LSm.range_any bs
    rw [e]
    exact ⟨.bl (bs.any id), H, I.kept (LSm.kept_iter hk), rfl, q⟩
end
end L2
namespace Mw
theorem snoc_ind {α : Type} {P : List α -> Prop} (h0 : P []) (hs : ∀ l a, P l -> P (l ++ [a])) : ∀ l, P l := fun l => by
  rw [<- List.reverse_reverse l]
  induction l.reverse with
  | nil => exact h0
  | cons a t ih => rw [List.reverse_cons]; exact hs _ _ ih
theorem lcm_step {L y T : Int} (hL : 0 < L) (hy : 0 < y) (h1 : L ∣ T) (h2 : y ∣ T) : 0 < L / (Int.gcd L y : Int) * y /\ L ∣ L / (Int.gcd L y : Int) * y /\ y ∣ L / (Int.gcd L y : Int) * y /\ L / (Int.gcd L y : Int) * y ∣ T := by
  have g1 : (Int.gcd L y : Int) ∣ L := Int.gcd_dvd_left _ _
  have g2 : (Int.gcd L y : Int) ∣ y := Int.gcd_dvd_right _ _
  have gp : 0 < (Int.gcd L y : Int) := by have := Int.gcd_pos_of_ne_zero_right L (show y ≠ 0 by omega); omega
  have q1 := Int.ediv_mul_cancel g1
  have q2 := Int.ediv_mul_cancel g2
  have hX : 0 < L / (Int.gcd L y : Int) := Int.pos_of_mul_pos_left (b := (Int.gcd L y : Int)) (by rw [q1]; exact hL) gp
  have e : L / (Int.gcd L y : Int) * y = L * (y / (Int.gcd L y : Int)) := by
    generalize (Int.gcd L y : Int) = g at *
    generalize L / g = X at *
    generalize y / g = Y at *
    subst q1
    grind
  refine ⟨Int.mul_pos hX hy, ⟨_, e⟩, ⟨L / (Int.gcd L y : Int), Int.mul_comm _ _⟩, ?_⟩
  have n1 : L.natAbs ∣ T.natAbs := Int.natAbs_dvd_natAbs.mpr h1
  have n2 : y.natAbs ∣ T.natAbs := Int.natAbs_dvd_natAbs.mpr h2
  have n3 := Nat.lcm_dvd n1 n2
  have e2 : (L / (Int.gcd L y : Int) * y).natAbs = Nat.lcm L.natAbs y.natAbs := by
    rw [Int.natAbs_mul, Int.natAbs_ediv_of_dvd g1]
    show L.natAbs / Nat.gcd L.natAbs y.natAbs * y.natAbs = _
    unfold Nat.lcm
    have : Nat.gcd L.natAbs y.natAbs ∣ L.natAbs := Nat.gcd_dvd_left _ _
    rw [Nat.div_mul_right_comm this]
  exact Int.natAbs_dvd_natAbs.mp (by rw [e2]; exact n3)
end Mw
namespace Mw
open PySem L2
def top (i : Nat) : Stmt := PySem.Challenge.pw_mendweights_k42_texts_refused.main.body.getD i (.Pass ⟨0, 0, 0, 0⟩)
def mem (i j : Nat) : Stmt := match top i with
  | .ClassDef _ _ _ body _ _ _ _ _ _ _ => body.getD j (.Pass ⟨0, 0, 0, 0⟩)
  | _ => .Pass ⟨0, 0, 0, 0⟩
abbrev BN : List Str := ["abs", "len", "isinstance", "tuple", "int", "bool", "str", "range", "enumerate", "min", "max", "all", "any", "divmod", "ValueError"]
instance lamPos : LamPos := ⟨0, 0⟩
structure Prog (K : PySem.W.Frag) (mg : Str -> Option Value) (C_Hand C_PlainHand C_Desk X_MendError X_NoFraction X_NoPoint X_NoRow X_NoSide X_NoTable X_NoText X_NotParted X_OneSide X_TooMany X_WrongBook : Addr) : Prop where
  c_Hand : ClsAt K mg "Hand" C_Hand
  c_PlainHand : ClsAt K mg "PlainHand" C_PlainHand
  c_Desk : ClsAt K mg "Desk" C_Desk
  x_MendError : ExR K mg "MendError" X_MendError
  x_NoFraction : ClN mg "NoFraction" X_NoFraction
  x_NoPoint : ClN mg "NoPoint" X_NoPoint
  x_NoRow : ClN mg "NoRow" X_NoRow
  x_NoSide : ClN mg "NoSide" X_NoSide
  x_NoTable : ClN mg "NoTable" X_NoTable
  x_NoText : ClN mg "NoText" X_NoText
  x_NotParted : ClN mg "NotParted" X_NotParted
  x_OneSide : ClN mg "OneSide" X_OneSide
  x_TooMany : ClN mg "TooMany" X_TooMany
  x_WrongBook : ClN mg "WrongBook" X_WrongBook
  i_NoText : ExI K mg "NoText" X_NoText "line"
  m_NoText___init__ : MethAt K X_NoText "__init__" "NoText.__init__" (mem 12 0)
  a_NoText : ExcA K X_NoText
  k_NoText_ValueError : PySem.W.kitOne K (.ref X_NoText) (.type "ValueError") = some true
  k_NoText_NoFraction : PySem.W.kitOne K (.ref X_NoText) (.ref X_NoFraction) = some false
  k_NoText_NoPoint : PySem.W.kitOne K (.ref X_NoText) (.ref X_NoPoint) = some false
  k_NoText_NoRow : PySem.W.kitOne K (.ref X_NoText) (.ref X_NoRow) = some false
  k_NoText_NoSide : PySem.W.kitOne K (.ref X_NoText) (.ref X_NoSide) = some false
  k_NoText_NoTable : PySem.W.kitOne K (.ref X_NoText) (.ref X_NoTable) = some false
  k_NoText_NoText : PySem.W.kitOne K (.ref X_NoText) (.ref X_NoText) = some true
  k_NoText_NotParted : PySem.W.kitOne K (.ref X_NoText) (.ref X_NotParted) = some false
  k_NoText_OneSide : PySem.W.kitOne K (.ref X_NoText) (.ref X_OneSide) = some false
  k_NoText_TooMany : PySem.W.kitOne K (.ref X_NoText) (.ref X_TooMany) = some false
  k_NoText_WrongBook : PySem.W.kitOne K (.ref X_NoText) (.ref X_WrongBook) = some false
  e_NoText_MendError : PySem.W.exmOne K (.ref X_NoText) (.ref X_MendError) = some true
  n_Hand_hand : NoAttr K C_Hand "hand"
  n_Hand_held : NoAttr K C_Hand "held"
  n_Hand_made : NoAttr K C_Hand "made"
  n_Hand_many : NoAttr K C_Hand "many"
  n_Hand_rows : NoAttr K C_Hand "rows"
  m_Hand___init__ : MethAt K C_Hand "__init__" "Hand.__init__" (mem 35 0)
  n_PlainHand_hand : NoAttr K C_PlainHand "hand"
  n_PlainHand_held : NoAttr K C_PlainHand "held"
  n_PlainHand_made : NoAttr K C_PlainHand "made"
  n_PlainHand_many : NoAttr K C_PlainHand "many"
  n_PlainHand_rows : NoAttr K C_PlainHand "rows"
  m_PlainHand___init__ : MethAt K C_PlainHand "__init__" "Hand.__init__" (mem 35 0)
  n_Desk_hand : NoAttr K C_Desk "hand"
  n_Desk_held : NoAttr K C_Desk "held"
  n_Desk_made : NoAttr K C_Desk "made"
  n_Desk_many : NoAttr K C_Desk "many"
  n_Desk_rows : NoAttr K C_Desk "rows"
  m_Desk___init__ : MethAt K C_Desk "__init__" "Desk.__init__" (mem 38 0)
  d_Hand_PlainHand : C_Hand ≠ C_PlainHand
  d_Hand_Desk : C_Hand ≠ C_Desk
  d_PlainHand_Desk : C_PlainHand ≠ C_Desk
abbrev figs : List Nat := [48, 49, 50, 51, 52, 53, 54, 55, 56, 57]
abbrev botS : List Str := ["2", "3", "4", "5", "6", "7", "8", "9"]
structure Consts (K : PySem.W.Frag) (mg : Str -> Option Value) (bt : Addr) : Prop where
  MOST_LINES : ∃ u, mg "MOST_LINES" = some u /\ RelV (.int 30) u
  MOST_COORDINATES : ∃ u, mg "MOST_COORDINATES" = some u /\ RelV (.int 4) u
  MOST_FIGURES : ∃ u, mg "MOST_FIGURES" = some u /\ RelV (.int 4) u
  REACH : ∃ u, mg "REACH" = some u /\ RelV (.int 1000) u
  FIGURES : ∃ u, mg "FIGURES" = some u /\ RelV (.str "0123456789") u
  BOTTOMS : ∃ u, mg "BOTTOMS" = some u /\ RelV (.ref bt) u
  bots : ∀ H, SqT K H bt (botS.map V.str)
theorem figs_eq : (("0123456789" : Str)).cps.toList = figs := by decide +kernel
theorem in_figs (c : Nat) : (!(Builtin.Str.occurrences "0123456789" ⟨#[c]⟩ 0 (("0123456789" : Str)).length 1).isEmpty) = decide (c ∈ figs) := by rw [StrLaws.found_one, figs_eq]
theorem mem_figs {c : Nat} : c ∈ figs ↔ 48 <= c /\ c <= 57 := by
  constructor
  · intro h
    simp only [figs, List.mem_cons, List.not_mem_nil, or_false] at h
    omega
  · intro h
    simp only [figs, List.mem_cons, List.not_mem_nil, or_false]
    omega
def isNumB (w : Str) : Bool := decide (1 <= w.length /\ w.length <= 4) && !(decide ((cs w)[0]? = some 48) && !decide (w = "0")) && (cs w).all fun c => decide (c ∈ figs)
def unsg (w : Str) : Str := if Txt.startswith w "-" = true then Txt.slice w (some 1) none else w
def numOf (w : Str) : Int := (PySem.intText? w).getD 0
def isCoordB (w : Str) : Bool := isNumB (Txt.partition (unsg w) "/").1 && !Txt.startswith w "-0" &&
  (decide ((Txt.partition (unsg w) "/").2.1 = "") || (decide ((Txt.partition (unsg w) "/").2.2 ∈ botS) && decide (Int.gcd (numOf (Txt.partition (unsg w) "/").1) (numOf (Txt.partition (unsg w) "/").2.2) = 1)))
def isLineB (ws : List Str) : Bool := decide (ws[0]? = some ("0" : Str) \/ ws[0]? = some ("1" : Str)) && decide (1 <= (ws.drop 1).length /\ (ws.drop 1).length <= 4) && (ws.drop 1).all isCoordB
def okL (wss : List (List Str)) (i : Nat) : Bool := decide (i < 30) && (isLineB (wss.getD i []) && decide ((wss.getD i []).length = (wss.getD 0 []).length))
def fracW (w : Str) : Option (Int × Int) := (PySem.intText? (Txt.partition w "/").1).bind fun t => if (Txt.partition w "/").2.2 = "" then some (t, 1) else (PySem.intText? (Txt.partition w "/").2.2).map fun b => (t, b)
def WordsAt (K : PySem.W.Frag) (H : Hp) (as : List Addr) (wss : List (List Str)) : Prop := Paired (fun a ws => SqL K H a (ws.map V.str)) as wss
theorem WordsAt.same {K : PySem.W.Frag} {H H' : Hp} {as : List Addr} {wss : List (List Str)} (h : WordsAt K H as wss) (s : Same H H') : WordsAt K H' as wss := Paired.mapP h fun _ _ q => s.seq q
theorem num_int {w : Str} (h : isNumB w = true) : ∃ n : Nat, PySem.intText? w = some (n : Int) /\ n <= 9999 /\ w.length <= 4 := by
  unfold isNumB at h
  rw [Bool.and_eq_true, Bool.and_eq_true] at h
  obtain ⟨⟨h1, _⟩, h3⟩ := h
  have h1 := of_decide_eq_true h1
  have hd : NumText.AllDigits (cs w) := fun c hc => by
    have := of_decide_eq_true (List.all_eq_true.mp h3 c hc)
    exact mem_figs.mp this
  have hl := cs_length w
  have e := PySem.intText_digits (x := w) hd (by intro z; have z : cs w = [] := z; rw [z] at hl; have : w.length = 0 := hl.symm; omega) (by omega)
  refine ⟨_, e, ?_, h1.2⟩
  have hb : ∀ (l : List Nat) (acc : Nat), NumText.AllDigits l -> l.foldl (fun acc c => acc * 10 + (c - 48)) acc < (acc + 1) * 10 ^ l.length := fun l => by
    induction l with
    | nil => intro acc _; simp
    | cons c l ih =>
      intro acc hc
      have h2 := ih (acc * 10 + (c - 48)) hc.tail
      have h3 := hc.head
      have h4 : (acc * 10 + (c - 48) + 1) * 10 ^ l.length <= ((acc + 1) * 10) * 10 ^ l.length := Nat.mul_le_mul_right _ (by omega)
      show l.foldl _ (acc * 10 + (c - 48)) < _
      rw [List.length_cons, Nat.pow_succ, Nat.mul_comm (10 ^ l.length) 10, <- Nat.mul_assoc]
      omega
  have h5 := hb (cs w) 0 hd
  have h6 : 10 ^ (cs w).length <= 10 ^ 4 := Nat.pow_le_pow_right (by decide) (by omega)
  have h7 : NumText.digitsVal (cs w) < (0 + 1) * 10 ^ (cs w).length := h5
  show NumText.digitsVal (cs w) <= 9999
  omega
theorem bot_int {w : Str} (h : w ∈ botS) : ∃ n : Nat, PySem.intText? w = some (n : Int) /\ 2 <= n /\ n <= 9 /\ w.length <= 4 := by
  have rd : ∀ (n : Nat), n < 10 -> 2 <= n -> ∀ w : Str, cs w = [48 + n] -> ∃ n : Nat, PySem.intText? w = some (n : Int) /\ 2 <= n /\ n <= 9 /\ w.length <= 4 := fun n hn h2 w e => ⟨n, read_nat (by rw [e, dg_small hn]) (by omega), h2, by omega, by rw [<- cs_length, e]; show 1 <= 4; omega⟩
  simp only [botS, List.mem_cons, List.not_mem_nil, or_false] at h
  rcases h with h | h | h | h | h | h | h | h <;> subst h
  · exact rd 2 (by decide) (by decide) _ (by decide +kernel)
  · exact rd 3 (by decide) (by decide) _ (by decide +kernel)
  · exact rd 4 (by decide) (by decide) _ (by decide +kernel)
  · exact rd 5 (by decide) (by decide) _ (by decide +kernel)
  · exact rd 6 (by decide) (by decide) _ (by decide +kernel)
  · exact rd 7 (by decide) (by decide) _ (by decide +kernel)
  · exact rd 8 (by decide) (by decide) _ (by decide +kernel)
  · exact rd 9 (by decide) (by decide) _ (by decide +kernel)
theorem slash_eq : ("/" : Str) = ⟨#[47]⟩ := by decide +kernel
theorem part_le (w y : Str) : (Txt.partition w y).1.length <= w.length := (PyProof.Rows.fact_partition w y).1
theorem unsg_le (w : Str) : (unsg w).length <= w.length := by
  unfold unsg
  split
  · exact Txt.slice_le w _ _
  · exact Nat.le_refl _
theorem len1000 {n : Nat} (h : n <= 1000) : n <= sizeLine := Nat.le_of_lt (small1000 h)
theorem cut1 {α : Type} (xs : List α) (g : α -> V) : cutV (xs.map g) (some 1) none = (xs.drop 1).map g := by
  rw [cutL_map]
  unfold cutL
  rw [show (some (1 : Int)) = some ((1 : Nat) : Int) from rfl, HT.sIx_nat, HT.sIx_none]
  congr 1
  cases xs with
  | nil => rfl
  | cons x xs =>
    have e : min 1 (x :: xs).length = 1 := by rw [List.length_cons]; omega
    rw [e]
    exact List.take_of_length_le (by rw [List.length_drop]; omega)
section
variable {K : PySem.W.Frag} {fr : List (Option Nat)} {g : TG} {te : TE} {D : Addr} {σ : St} {H1 : Hp} {Q : VK}
theorem comp_tup_map {a : Addr} {xs : List V} (f : V -> V) (hq : SqT K H1 a xs) (hn : xs.length <= sizeLine) (hD : H1 D = none)
    (hs : ∀ (i : Nat) x H (R : VK), xs[i]? = some x -> Same H1 H -> (∀ H', Same H H' -> R (f x) H') -> g x (carry fr σ) H fun σ2 H2 => Wk (carry fr σ) σ2 /\ te σ2 H2 R)
    (q : ∀ H', Same H1 H' -> H' D = some (.lst (xs.map f)) -> Q (.ref D) H') : tTurns fr g tYes te D (Itt K a) σ H1 Q := by
  refine comp_tup_rel (fun _ i y => ∀ x, xs[i]? = some x -> y = f x) (fun _ _ _ _ _ h => h) hq hn hD (fun i x H R hx s _ k => hs i x H R hx s fun H' s' => k _ _ s' fun x' hx' => by rw [hx] at hx'; cases hx'; rfl) fun ys H' s e hl hy => ?_
  have : ys = xs.map f := by
    refine List.ext_getElem? fun i => ?_
    rw [List.getElem?_map]
    by_cases hi : i < ys.length
    · rw [List.getElem?_eq_getElem hi, List.getElem?_eq_getElem (show i < xs.length by omega)]
      rw [hy i _ (List.getElem?_eq_getElem hi) _ (List.getElem?_eq_getElem (show i < xs.length by omega))]
      rfl
    · rw [List.getElem?_eq_none (by omega), List.getElem?_eq_none (by omega)]; rfl
  rw [this] at e
  exact q H' s e
end
theorem inV_strs (z : Str) (l : List Str) : inV (.str z) (l.map V.str) = decide (z ∈ l) := by
  induction l with
  | nil => rfl
  | cons y l ih =>
    show ((y == z) || inV (.str z) (l.map V.str)) = _
    rw [ih]
    by_cases h : z = y
    · rw [h, beq_self_eq_true, decide_eq_true (List.mem_cons_self ..)]; rfl
    · rw [beq_false_of_ne (fun e => h e.symm), Bool.false_or]
      exact decide_eq_decide.mpr ⟨fun m => List.mem_cons_of_mem _ m, fun m => (List.mem_cons.mp m).elim (fun e => absurd e h) id⟩
theorem inV_bots (z : Str) : inV (.str z) (botS.map V.str) = decide (z ∈ botS) := inV_strs z botS
theorem lcmF_T {T : Int} (hT : 0 < T) (bs : List Int) : (∀ b ∈ bs, 0 < b /\ b ∣ T) -> 0 < lcmF bs /\ lcmF bs ∣ T := by
  refine snoc_ind (P := fun bs => (∀ b ∈ bs, 0 < b /\ b ∣ T) -> 0 < lcmF bs /\ lcmF bs ∣ T) (fun _ => ⟨by decide, Int.one_dvd _⟩) (fun l b ih h => ?_) bs
  have h1 := ih fun x hx => h x (List.mem_append_left _ hx)
  have h2 := h b (by simp)
  have h3 := lcm_step h1.1 h2.1 h1.2 h2.2
  have e : lcmF (l ++ [b]) = lcmF l / (Int.gcd (lcmF l) b : Int) * b := by
    rw [lcmF_snoc]
    have g1 : (Int.gcd (lcmF l) b : Int) ∣ lcmF l := Int.gcd_dvd_left _ _
    have g2 : (Int.gcd (lcmF l) b : Int) ∣ b := Int.gcd_dvd_right _ _
    have q1 := Int.ediv_mul_cancel g1
    have q2 := Int.ediv_mul_cancel g2
    generalize (Int.gcd (lcmF l) b : Int) = g at *
    generalize lcmF l / g = X at *
    generalize b / g = Y at *
    rw [<- q1, <- q2]
    grind
  rw [e]
  exact ⟨h3.1, h3.2.2.2⟩
def OkB (bs : List Int) : Prop := ∀ b ∈ bs, 0 < b /\ b <= 9
theorem lcm9 {bs : List Int} (h : OkB bs) : 0 < lcmF bs /\ lcmF bs ∣ 2520 := lcmF_T (by decide) bs fun b hb => ⟨(h b hb).1, by
  have hb0 := h b hb
  have : b = 1 \/ b = 2 \/ b = 3 \/ b = 4 \/ b = 5 \/ b = 6 \/ b = 7 \/ b = 8 \/ b = 9 := by omega
  rcases this with e | e | e | e | e | e | e | e | e <;> subst e <;> decide⟩
theorem lcm9_le {bs : List Int} (h : OkB bs) : lcmF bs <= 2520 := Int.le_of_dvd (by decide) (lcm9 h).2
section
variable (K : PySem.W.Frag)
def spLcm9 : Sp := fun vs H Q _ => ∃ (a : Addr) (bs : List Int), vs = [.ref a] /\ SqL K H a (bs.map V.int) /\ OkB bs /\ Q (.int (lcmF bs)) H
def spIsNum : Sp := fun vs H Q _ => ∃ w : Str, vs = [.str w] /\ w.length <= 1000 /\ ∀ H', Same H H' -> Q (.bl (isNumB w)) H'
def spIsCoord : Sp := fun vs H Q _ => ∃ w : Str, vs = [.str w] /\ w.length <= 1000 /\ ∀ H', Same H H' -> Q (.bl (isCoordB w)) H'
def spIsLine : Sp := fun vs H Q _ => ∃ (a : Addr) (ws : List Str), vs = [.ref a] /\ SqL K H a (ws.map V.str) /\ ws ≠ [] /\ ws.length <= 1000 /\ (∀ w ∈ ws, w.length <= 1000) /\ ∀ H', Same H H' -> Q (.bl (isLineB ws)) H'
structure LnAt (H : Hp) (a : Addr) (as : List Addr) (wss : List (List Str)) : Prop where
  lst : SqL K H a (as.map V.ref)
  at_ : WordsAt K H as wss
  few : wss.length <= 1000
  ne : ∀ ws ∈ wss, ws ≠ []
  wid : ∀ ws ∈ wss, ws.length <= 1000
  len : ∀ ws ∈ wss, ∀ w ∈ ws, w.length <= 1000
def spLines (nt : Addr) : Sp := fun vs H Q E => ∃ (a : Addr) (as : List Addr) (wss : List (List Str)), vs = [.ref a] /\ LnAt K H a as wss /\ (∀ H', Same H H' -> (∀ i, i < wss.length -> okL wss i = true) -> Q .non H') /\
  ∀ i d H', Same H H' -> i < wss.length -> (∀ j, j < i -> okL wss j = true) -> okL wss i = false -> H' d = some (.xd [("line", .int (i : Nat))]) -> E (.ref nt) (some d) H'
def spFracOf : Sp := fun vs H Q _ => ∃ (w : Str) (t b : Int), vs = [.str w] /\ w.length <= 600 /\ fracW w = some (t, b) /\ ∀ p H', Same H H' -> H p = none -> H' p = some (.tup [.int t, .int b]) -> Q (.ref p) H'
def ReadL (wss : List (List Str)) (fss : List (List (Int × Int))) : Prop := Paired (fun (ws : List Str) fs => Paired (fun w f => fracW w = some f /\ w.length <= 600) (ws.drop 1) fs) wss fss
structure FrOk4 (f : Int × Int) : Prop where
  top : -10000 < f.1 /\ f.1 < 10000
  bot : 0 < f.2 /\ f.2 <= 9
def unitF (fss : List (List (Int × Int))) : Int := lcmF (fss.flatten.map (·.2))
def spUnit : Sp := fun vs H Q _ => ∃ (a : Addr) (as : List Addr) (wss : List (List Str)) (fss : List (List (Int × Int))), vs = [.ref a] /\ LnAt K H a as wss /\ ReadL wss fss /\ fss.length <= 30 /\ (∀ fs ∈ fss, fs.length <= 4) /\ (∀ fs ∈ fss, ∀ f ∈ fs, FrOk4 f) /\ ∀ H', Same H H' -> Q (.int (unitF fss)) H'
def inU (u : Int) (f : Int × Int) : Int := f.1 * (u / f.2)
def spInU : Sp := fun vs H Q _ => ∃ (w : Str) (f : Int × Int) (u : Int), vs = [.str w, .int u] /\ w.length <= 600 /\ fracW w = some f /\ FrOk4 f /\ 0 < u /\ u <= 2520 /\ ∀ H', Same H H' -> Q (.int (inU u f)) H'
def spRowOf : Sp := fun vs H Q _ => ∃ (a : Addr) (ws : List Str) (fs : List (Int × Int)) (u s : Int) (w0 : Str), vs = [.ref a, .int u] /\ SqL K H a (ws.map V.str) /\ ws.length <= 1000 /\ Paired (fun w f => fracW w = some f /\ w.length <= 600) (ws.drop 1) fs /\ (∀ f ∈ fs, FrOk4 f) /\ 0 < u /\ u <= 2520 /\ ws[0]? = some w0 /\ PySem.intText? w0 = some s /\ w0.length <= 600 /\
  ∀ p t H', Same H H' -> H p = none -> H t = none -> H' p = some (.tup [.ref t, .int s]) -> H' t = some (.tup ((fs.map (inU u)).map V.int)) -> Q (.ref p) H'
def overB (rs : List (List Int × Int)) : Bool := rs.any fun r => r.1.any fun n => decide (1000 < (if n < 0 then -n else n))
def spReach (nt : Addr) : Sp := fun vs H Q E => ∃ (a : Addr) (as : List Addr) (rs : List (List Int × Int)), vs = [.ref a] /\ SqL K H a (as.map V.ref) /\ RowsAt K H as rs /\ rs.length <= 1000 /\ (∀ r ∈ rs, r.1.length <= 1000) /\ (∀ H', Same H H' -> overB rs = false -> Q .non H') /\
  ∀ d H', Same H H' -> overB rs = true -> H' d = some (.xd [("line", .int 0)]) -> E (.ref nt) (some d) H'
end
def wordsOf (t : Str) : List (List Str) := (Txt.split t ⟨#[10]⟩).map fun l => Txt.split l ⟨#[32]⟩
def fsOf (ws : List Str) : List (Int × Int) := (ws.drop 1).map fun w => (fracW w).getD (0, 1)
def fssOf (wss : List (List Str)) : List (List (Int × Int)) := wss.map fsOf
def sideOf (ws : List Str) : Int := numOf (ws.headD "")
def rowsOf (wss : List (List Str)) : List (List Int × Int) := wss.map fun ws => ((fsOf ws).map (inU (unitF (fssOf wss))), sideOf ws)
theorem first_of {c : Nat} : ∀ {l : List Nat}, c ∈ l -> ∃ a b, l = a ++ c :: b /\ c ∉ a
  | d :: l, h => by
    by_cases e : c = d
    · exact ⟨[], l, by rw [e]; rfl, by simp⟩
    · obtain ⟨a, b, r, n⟩ := first_of ((List.mem_cons.mp h).elim (fun z => absurd z e) id)
      exact ⟨d :: a, b, by rw [r]; rfl, fun z => (List.mem_cons.mp z).elim e n⟩
theorem minus_cs : cs ("-" : Str) = [45] := by decide +kernel
theorem empty_cs : cs ("" : Str) = [] := by decide +kernel
theorem empty_is : (Str.empty : Str) = "" := str_ext (by decide +kernel)
theorem starts_minus (w : Str) : Txt.startswith w "-" = decide ((cs w)[0]? = some 45) := by
  rw [starts_cs, minus_cs]
  have hl := cs_length w
  have h1 : ("-" : Str).length = 1 := by decide +kernel
  rw [h1]
  cases e : cs w with
  | nil => rw [e] at hl; rw [show w.length = 0 from hl.symm]; rfl
  | cons c r =>
    rw [e] at hl
    rw [decide_eq_true (show 1 <= w.length by rw [<- hl]; exact Nat.succ_le_succ (Nat.zero_le _)), Bool.true_and]
    show ([c] == [45]) = decide (some c = some 45)
    by_cases z : c = 45
    · rw [z]; rfl
    · rw [decide_eq_false (fun y => z (by injection y))]
      exact beq_false_of_ne (fun y => z (by injection y))
theorem unsg_cs (w : Str) : ((cs w)[0]? = some 45 /\ cs w = 45 :: cs (unsg w)) \/ ((cs w)[0]? ≠ some 45 /\ unsg w = w) := by
  by_cases h : (cs w)[0]? = some 45
  · refine .inl ⟨h, ?_⟩
    unfold unsg
    rw [starts_minus, if_pos (decide_eq_true h)]
    have hl := cs_length w
    cases e : cs w with
    | nil => rw [e] at h; cases h
    | cons c r =>
      rw [e] at h hl
      rw [slice1_cs (by rw [<- hl]; exact Nat.succ_le_succ (Nat.zero_le _)), e]
      have : c = 45 := by simpa using h
      rw [this]; rfl
  · refine .inr ⟨h, ?_⟩
    unfold unsg
    rw [starts_minus, if_neg (by rw [decide_eq_false h]; decide)]
theorem part_sign (w : Str) : ∃ a : Str, Txt.partition w "/" = (a, (Txt.partition (unsg w) "/").2.1, (Txt.partition (unsg w) "/").2.2) /\ (((cs w)[0]? = some 45 /\ cs a = 45 :: cs (Txt.partition (unsg w) "/").1) \/ ((cs w)[0]? ≠ some 45 /\ a = (Txt.partition (unsg w) "/").1)) := by
  rcases unsg_cs w with ⟨h, e⟩ | ⟨h, e⟩
  · rw [slash_eq]
    by_cases hm : 47 ∈ cs (unsg w)
    · obtain ⟨a, b, r, n⟩ := first_of hm
      have e1 := part_some (w := unsg w) (a := ⟨a.toArray⟩) (b := ⟨b.toArray⟩) (c := 47) r n
      have e2 := part_some (w := w) (a := ⟨(45 :: a).toArray⟩) (b := ⟨b.toArray⟩) (c := 47) (by rw [e, r]; rfl) (fun z => (List.mem_cons.mp z).elim (by decide) n)
      rw [e1, e2]
      exact ⟨_, rfl, .inl ⟨h, rfl⟩⟩
    · have e1 := part_none (w := unsg w) hm
      have e2 := part_none (w := w) (c := 47) (by rw [e]; exact fun z => (List.mem_cons.mp z).elim (by decide) hm)
      rw [e1, e2]
      exact ⟨_, rfl, .inl ⟨h, e⟩⟩
  · rw [e]; exact ⟨_, rfl, .inr ⟨h, rfl⟩⟩
theorem part_empty (u : Str) : (Txt.partition u "/").2.1 = "" -> (Txt.partition u "/").2.2 = "" := by
  rw [slash_eq]
  by_cases hm : 47 ∈ cs u
  · obtain ⟨a, b, r, n⟩ := first_of hm
    rw [part_some (w := u) (a := ⟨a.toArray⟩) (b := ⟨b.toArray⟩) (c := 47) r n]
    intro h
    have : cs (⟨#[47]⟩ : Str) = cs "" := by rw [show (⟨#[47]⟩ : Str) = "" from h]
    rw [empty_cs] at this
    cases this
  · rw [part_none hm]
    intro _; exact empty_is
theorem coord_frac {w : Str} (h : isCoordB w = true) : ∃ f, fracW w = some f /\ FrOk4 f := by
  unfold isCoordB at h
  rw [Bool.and_eq_true, Bool.and_eq_true] at h
  obtain ⟨⟨h1, _⟩, h3⟩ := h
  obtain ⟨n, hn, hn9, hn4⟩ := num_int h1
  obtain ⟨a, ea, hs⟩ := part_sign w
  have hd : NumText.AllDigits (cs (Txt.partition (unsg w) "/").1) /\ cs (Txt.partition (unsg w) "/").1 ≠ [] := by
    unfold isNumB at h1
    rw [Bool.and_eq_true, Bool.and_eq_true] at h1
    obtain ⟨⟨z1, _⟩, z3⟩ := h1
    refine ⟨fun c hc => mem_figs.mp (of_decide_eq_true (List.all_eq_true.mp z3 c hc)), fun z => ?_⟩
    have := cs_length (Txt.partition (unsg w) "/").1
    rw [z] at this
    have := (of_decide_eq_true z1).1
    simp at *
    omega
  obtain ⟨t, ht, ht9⟩ : ∃ t : Int, PySem.intText? a = some t /\ (-10000 < t /\ t < 10000) := by
    rcases hs with ⟨_, ha⟩ | ⟨_, ha⟩
    · have hl := cs_length a
      have hl2 := cs_length (Txt.partition (unsg w) "/").1
      have e1 := PySem.intText_neg (x := a) ha hd.1 hd.2 (by rw [<- hl, ha]; show _ + 1 <= _; omega)
      have e2 := PySem.intText_digits (x := (Txt.partition (unsg w) "/").1) hd.1 hd.2 (by omega)
      rw [hn] at e2
      injection e2 with e2
      refine ⟨_, e1, ?_⟩
      have e3 : ((NumText.digitsVal (cs (Txt.partition (unsg w) "/").1) : Nat) : Int) = n := e2.symm
      omega
    · rw [ha]; exact ⟨n, hn, by omega, by omega⟩
  unfold fracW
  rw [ea]
  show ∃ f, ((PySem.intText? a).bind fun t => if (Txt.partition (unsg w) "/").2.2 = "" then some (t, 1) else (PySem.intText? (Txt.partition (unsg w) "/").2.2).map fun b => (t, b)) = some f /\ FrOk4 f
  rw [ht, Option.bind_some]
  rcases Bool.or_eq_true_iff.mp h3 with z | z
  · rw [if_pos (part_empty _ (of_decide_eq_true z))]
    exact ⟨_, rfl, ht9, (by show (0 : Int) < 1; decide), (by show (1 : Int) <= 9; decide)⟩
  · rw [Bool.and_eq_true] at z
    have zb := of_decide_eq_true z.1
    obtain ⟨m, hm, hm2, hm9, hm4⟩ := bot_int zb
    have : ¬ (Txt.partition (unsg w) "/").2.2 = "" := fun y => by
      rw [y] at zb
      exact absurd zb (by decide +kernel)
    rw [if_neg this, hm]
    exact ⟨_, rfl, ht9, by show (0 : Int) < (m : Int); omega, by show (m : Int) <= 9; omega⟩
def numTxt (t : Int) : Str := Str.ofString (toString t)
def written (f : Int × Int) : Str := if f.2 = 1 then numTxt f.1 else numTxt f.1 ++ "/" ++ numTxt f.2
theorem num_cs (t : Int) : ∃ n : Nat, ((0 <= t /\ t = n /\ cs (numTxt t) = dg n) \/ (t < 0 /\ t = -(n : Int) /\ n ≠ 0 /\ cs (numTxt t) = 45 :: dg n)) := by
  by_cases h : 0 <= t
  · obtain ⟨n, rfl⟩ := Int.eq_ofNat_of_zero_le h
    exact ⟨n, .inl ⟨h, rfl, cs_nat n⟩⟩
  · obtain ⟨n, e⟩ : ∃ n : Nat, t = -((n + 1 : Nat) : Int) := ⟨(-t).toNat - 1, by omega⟩
    refine ⟨n + 1, .inr ⟨by omega, e, by omega, ?_⟩⟩
    rw [e]; exact cs_neg n
theorem dg_free {n c : Nat} (h : c < 48 \/ 57 < c) : c ∉ dg n := fun z => by
  have := (dg_facts n).2.1 c z
  omega
theorem num_free (t : Int) {c : Nat} (h : c < 48 \/ 57 < c) (h45 : c ≠ 45) : c ∉ cs (numTxt t) := by
  obtain ⟨n, ⟨_, _, e⟩ | ⟨_, _, _, e⟩⟩ := num_cs t
  · rw [e]; exact dg_free h
  · rw [e]; exact fun z => (List.mem_cons.mp z).elim h45 (dg_free h)
theorem slash_cs : cs ("/" : Str) = [47] := by decide +kernel
theorem written_cs (f : Int × Int) : cs (written f) = cs (numTxt f.1) ++ (if f.2 = 1 then [] else 47 :: cs (numTxt f.2)) := by
  unfold written
  split
  · rw [List.append_nil]
  · rw [cs_append, cs_append, slash_cs, List.append_assoc]; rfl
theorem written_free (f : Int × Int) {c : Nat} (h : c < 45) : c ∉ cs (written f) := by
  rw [written_cs]
  intro z
  rcases List.mem_append.mp z with z | z
  · exact num_free f.1 (by omega) (by omega) z
  · split at z
    · simp at z
    · rcases List.mem_cons.mp z with z | z
      · omega
      · exact num_free f.2 (by omega) (by omega) z
structure Low (f : Int × Int) : Prop where
  top : -9999 <= f.1 /\ f.1 <= 9999
  bot : 1 <= f.2 /\ f.2 <= 9
  low : Int.gcd f.1 f.2 = 1
theorem read_num {t : Int} (h : -9999 <= t /\ t <= 9999) : PySem.intText? (numTxt t) = some t := by
  obtain ⟨n, ⟨_, e1, e⟩ | ⟨_, e1, _, e⟩⟩ := num_cs t
  · rw [read_nat e (by omega), e1]
  · rw [read_neg e (by omega), e1]
theorem num_len {t : Int} (h : -9999 <= t /\ t <= 9999) : (numTxt t).length <= 5 := by
  obtain ⟨n, ⟨_, e1, e⟩ | ⟨_, e1, _, e⟩⟩ := num_cs t
  · rw [<- cs_length, e]; have := dg_len 3 n (by omega); omega
  · rw [<- cs_length, e]; have := dg_len 3 n (by omega); show _ + 1 <= _; omega
theorem written_part {f : Int × Int} : Txt.partition (written f) "/" = (if f.2 = 1 then (written f, ("" : Str), ("" : Str)) else (numTxt f.1, ("/" : Str), numTxt f.2)) := by
  rw [slash_eq]
  split
  · rename_i h
    rw [part_none, empty_is]
    rw [written_cs, if_pos h, List.append_nil]
    exact num_free f.1 (by decide) (by decide)
  · rename_i h
    exact part_some (by rw [written_cs, if_neg h]) (num_free f.1 (by decide) (by decide))
theorem num_ne (t : Int) : ¬ numTxt t = "" := fun h => by
  have h2 : cs (numTxt t) = [] := by rw [h]; exact empty_cs
  obtain ⟨n, ⟨_, _, e⟩ | ⟨_, _, _, e⟩⟩ := num_cs t
  · rw [e] at h2; exact (dg_facts n).1 h2
  · rw [e] at h2; cases h2
theorem written_frac {f : Int × Int} (h : Low f) : fracW (written f) = some f := by
  unfold fracW
  rw [written_part]
  have hb := h.bot
  split
  · rename_i e
    show ((PySem.intText? (written f)).bind fun t => if ("" : Str) = "" then some (t, 1) else _) = _
    have ew : written f = numTxt f.1 := by unfold written; rw [if_pos e]
    rw [ew, read_num h.top, Option.bind_some, if_pos rfl, <- e]
  · show ((PySem.intText? (numTxt f.1)).bind fun t => if numTxt f.2 = "" then some (t, 1) else (PySem.intText? (numTxt f.2)).map fun b => (t, b)) = _
    rw [read_num h.top, Option.bind_some, if_neg (num_ne _), read_num (by omega)]
    rfl
theorem written_len {f : Int × Int} (h : Low f) : (written f).length <= 20 := by
  have h1 := num_len h.top
  have h2 := num_len (t := f.2) (by have := h.bot; omega)
  rw [<- cs_length, written_cs, List.length_append]
  have e1 := cs_length (numTxt f.1)
  have e2 := cs_length (numTxt f.2)
  split
  · show _ + 0 <= _; omega
  · show _ + (_ + 1) <= _; omega
theorem isNum_dg {w : Str} {n : Nat} (h : cs w = dg n) (hn : n <= 9999) : isNumB w = true := by
  obtain ⟨f1, f2, f3⟩ := dg_facts n
  have hl := cs_length w
  have h4 := dg_len 3 n (by omega)
  have h1 : 1 <= (dg n).length := List.length_pos_iff.mpr f1
  unfold isNumB
  rw [decide_eq_true (show 1 <= w.length /\ w.length <= 4 by rw [<- hl, h]; omega), Bool.true_and, Bool.and_eq_true]
  refine ⟨?_, List.all_eq_true.mpr fun c hc => decide_eq_true (mem_figs.mpr (f2 c (by rw [<- h]; exact hc)))⟩
  by_cases h0 : n = 0
  · have : w = "0" := str_ext (by rw [h, h0, dg_small (by decide)]; decide +kernel)
    rw [decide_eq_true this]
    simp
  · rw [h, decide_eq_false (f3 h0)]; rfl
theorem written_coord {f : Int × Int} (h : Low f) : isCoordB (written f) = true := by
  have hb := h.bot
  have ht := h.top
  -- the unsigned word
  obtain ⟨n, hn9, un, hpn, hne0⟩ : ∃ n : Nat, n <= 9999 /\ cs (unsg (written f)) = dg n ++ (if f.2 = 1 then [] else 47 :: cs (numTxt f.2)) /\ f.1.natAbs = n /\ Txt.startswith (written f) "-0" = false := by
    have hz : cs ("-0" : Str) = [45, 48] := by decide +kernel
    have hz2 : ("-0" : Str).length = 2 := by decide +kernel
    rcases unsg_cs (written f) with ⟨q, e⟩ | ⟨q, e⟩
    · obtain ⟨n, ⟨_, e1, e2⟩ | ⟨_, e1, en0, e2⟩⟩ := num_cs f.1
      · obtain ⟨f1, f2, f3⟩ := dg_facts n
        rw [written_cs, e2, List.getElem?_append_left (List.length_pos_iff.mpr f1)] at q
        have := f2 45 (List.mem_of_getElem? q)
        omega
      · refine ⟨n, by omega, ?_, by omega, ?_⟩
        · rw [written_cs, e2] at e
          injection e with _ e
          exact e.symm
        · rw [starts_cs, hz, hz2, written_cs, e2]
          obtain ⟨f1, f2, f3⟩ := dg_facts n
          cases ed : dg n with
          | nil => exact absurd ed f1
          | cons c r =>
            have : c ≠ 48 := fun y => f3 en0 (by rw [ed, y]; rfl)
            show (_ && ([45, c] == [45, 48])) = false
            rw [beq_false_of_ne (fun y => this (by simpa using y)), Bool.and_false]
    · obtain ⟨n, ⟨_, e1, e2⟩ | ⟨_, e1, en0, e2⟩⟩ := num_cs f.1
      · refine ⟨n, by omega, by rw [e, written_cs, e2], by omega, ?_⟩
        rw [starts_cs, hz, hz2]
        have : ((cs (written f)).take 2 == [45, 48]) = false := by
          refine beq_false_of_ne fun y => q ?_
          have : ((cs (written f)).take 2)[0]? = some 45 := by rw [y]; rfl
          rw [List.getElem?_take_of_lt (by decide)] at this
          exact this
        rw [this, Bool.and_false]
      · rw [written_cs, e2] at q
        exact absurd rfl q
  have num1 : ∀ w : Str, cs w = dg n -> isNumB w = true /\ numOf w = n := fun w e => ⟨isNum_dg e hn9, by unfold numOf; rw [read_nat e (by omega)]; rfl⟩
  unfold isCoordB
  by_cases e1 : f.2 = 1
  · have hp : Txt.partition (unsg (written f)) "/" = (unsg (written f), ("" : Str), ("" : Str)) := by
      rw [slash_eq, part_none, empty_is]
      rw [un, if_pos e1, List.append_nil]
      exact dg_free (by decide)
    rw [hp, (num1 _ (by rw [un, if_pos e1, List.append_nil])).1, hne0]
    rfl
  · have hp : Txt.partition (unsg (written f)) "/" = ((⟨(dg n).toArray⟩ : Str), ("/" : Str), numTxt f.2) := by
      rw [slash_eq]
      exact part_some (by rw [un, if_neg e1]) (dg_free (by decide))
    obtain ⟨i1, i2⟩ := num1 ⟨(dg n).toArray⟩ rfl
    rw [hp, hne0]
    show (isNumB ⟨(dg n).toArray⟩ && !false && (decide (("/" : Str) = "") || (decide (numTxt f.2 ∈ botS) && decide (Int.gcd (numOf ⟨(dg n).toArray⟩) (numOf (numTxt f.2)) = 1)))) = true
    have i3 : numOf (numTxt f.2) = f.2 := by unfold numOf; rw [read_num (by omega)]; rfl
    have i4 : Int.gcd (n : Int) f.2 = 1 := by
      show Nat.gcd (n : Int).natAbs f.2.natAbs = 1
      rw [Int.natAbs_natCast, <- hpn]
      exact h.low
    have i5 : numTxt f.2 ∈ botS := by
      have : f.2 = 2 \/ f.2 = 3 \/ f.2 = 4 \/ f.2 = 5 \/ f.2 = 6 \/ f.2 = 7 \/ f.2 = 8 \/ f.2 = 9 := by omega
      rcases this with e | e | e | e | e | e | e | e <;> rw [e] <;> decide +kernel
    rw [i1, i2, i3, decide_eq_true i4, decide_eq_true i5]
    simp
theorem nl_is : ("\n" : Str) = ⟨#[10]⟩ := by decide +kernel
theorem sp_is : (" " : Str) = ⟨#[32]⟩ := by decide +kernel
abbrev Ln := Int × List (Int × Int)
def lineW (l : Ln) : List Str := numTxt l.1 :: l.2.map written
def lineTxt (l : Ln) : Str := Str.join ⟨#[32]⟩ (lineW l)
def textOf (ls : List Ln) : Str := Str.join ⟨#[10]⟩ (ls.map lineTxt)
structure GoodL (wd : Nat) (l : Ln) : Prop where
  side : l.1 = 0 \/ l.1 = 1
  cnt : l.2.length = wd
  low : ∀ f ∈ l.2, Low f
theorem line_free {l : Ln} {wd : Nat} (h : GoodL wd l) {c : Nat} (hc : c < 45) : ∀ w ∈ lineW l, c ∉ cs w := fun w hw => by
  rcases List.mem_cons.mp hw with e | e
  · rw [e]; exact num_free _ (by omega) (by omega)
  · obtain ⟨f, _, rfl⟩ := List.mem_map.mp e
    exact written_free f hc
theorem jn_free {c d : Nat} (hcd : c ≠ d) : ∀ {l : List (List Nat)}, (∀ w ∈ l, c ∉ w) -> c ∉ jn d l
  | [], _ => by simp [jn]
  | [w], h => h w (List.mem_cons_self ..)
  | w :: v :: r, h => by
    show c ∉ w ++ d :: jn d (v :: r)
    intro z
    rcases List.mem_append.mp z with z | z
    · exact h w (List.mem_cons_self ..) z
    · rcases List.mem_cons.mp z with z | z
      · exact hcd z
      · exact jn_free hcd (fun x hx => h x (List.mem_cons_of_mem _ hx)) z
theorem split_line {l : Ln} {wd : Nat} (h : GoodL wd l) : Txt.split (lineTxt l) ⟨#[32]⟩ = lineW l := split_join (by simp [lineW]) (line_free h (by decide))
theorem split_text {ls : List Ln} {wd : Nat} (hne : ls ≠ []) (h : ∀ l ∈ ls, GoodL wd l) : Txt.split (textOf ls) ⟨#[10]⟩ = ls.map lineTxt :=
  split_join (by intro z; exact hne (List.map_eq_nil_iff.mp z)) fun w hw => by
    obtain ⟨l, hl, rfl⟩ := List.mem_map.mp hw
    show 10 ∉ cs (Str.join ⟨#[32]⟩ (lineW l))
    rw [cs_join]
    refine jn_free (by decide) fun x hx => ?_
    obtain ⟨w, hw, rfl⟩ := List.mem_map.mp hx
    exact line_free (h l hl) (by decide) w hw
theorem words_text {ls : List Ln} {wd : Nat} (hne : ls ≠ []) (h : ∀ l ∈ ls, GoodL wd l) : wordsOf (textOf ls) = ls.map lineW := by
  unfold wordsOf
  rw [split_text hne h, List.map_map]
  exact List.map_congr_left fun l hl => split_line (h l hl)
theorem fs_line {l : Ln} {wd : Nat} (h : GoodL wd l) : fsOf (lineW l) = l.2 := by
  unfold fsOf lineW
  rw [List.drop_succ_cons, List.drop_zero, List.map_map]
  conv => rhs; rw [<- List.map_id l.2]
  exact List.map_congr_left fun f hf => by
    show (fracW (written f)).getD (0, 1) = f
    rw [written_frac (h.low f hf)]; rfl
theorem side_line {l : Ln} {wd : Nat} (h : GoodL wd l) : sideOf (lineW l) = l.1 := by
  show numOf (numTxt l.1) = l.1
  unfold numOf
  rw [read_num (by have := h.side; omega)]; rfl
theorem isLine_line {l : Ln} {wd : Nat} (h : GoodL wd l) (h1 : 1 <= wd) (h4 : wd <= 4) : isLineB (lineW l) = true := by
  unfold isLineB
  have e0 : (lineW l)[0]? = some (numTxt l.1) := rfl
  have ed : (lineW l).drop 1 = l.2.map written := rfl
  rw [e0, ed, List.length_map, h.cnt, decide_eq_true (show 1 <= wd /\ wd <= 4 from ⟨h1, h4⟩), Bool.and_true, Bool.and_eq_true]
  refine ⟨decide_eq_true ?_, ?_⟩
  · rcases h.side with e | e <;> rw [e]
    · exact .inl (by decide +kernel)
    · exact .inr (by decide +kernel)
  · rw [List.all_map]
    exact List.all_eq_true.mpr fun f hf => written_coord (h.low f hf)
theorem okL_lines {ls : List Ln} {wd : Nat} (h : ∀ l ∈ ls, GoodL wd l) (h1 : 1 <= wd) (h4 : wd <= 4) (h30 : ls.length <= 30) : ∀ i, i < (ls.map lineW).length -> okL (ls.map lineW) i = true := fun i hi => by
  rw [List.length_map] at hi
  have g : ∀ j (hj : j < ls.length), (ls.map lineW).getD j [] = lineW ls[j] := fun j hj => by rw [List.getD_eq_getElem?_getD, List.getElem?_map, List.getElem?_eq_getElem hj]; rfl
  unfold okL
  rw [g i hi, g 0 (by omega), decide_eq_true (show i < 30 by omega), isLine_line (h _ (List.getElem_mem hi)) h1 h4, Bool.true_and, Bool.true_and]
  refine decide_eq_true ?_
  show (_ :: _).length = (_ :: _).length
  rw [List.length_cons, List.length_cons, List.length_map, List.length_map, (h _ (List.getElem_mem hi)).cnt, (h _ (List.getElem_mem (show 0 < ls.length by omega))).cnt]
def rowsL (ls : List Ln) : List (List Int × Int) := ls.map fun l => (l.2.map (inU (unitF (ls.map (·.2)))), l.1)
theorem rows_lines {ls : List Ln} {wd : Nat} (h : ∀ l ∈ ls, GoodL wd l) : fssOf (ls.map lineW) = ls.map (·.2) /\ rowsOf (ls.map lineW) = rowsL ls := by
  have e1 : fssOf (ls.map lineW) = ls.map (·.2) := by
    unfold fssOf
    rw [List.map_map]
    exact List.map_congr_left fun l hl => fs_line (h l hl)
  refine ⟨e1, ?_⟩
  unfold rowsOf rowsL
  rw [e1, List.map_map]
  exact List.map_congr_left fun l hl => by
    show ((fsOf (lineW l)).map _, sideOf (lineW l)) = _
    rw [fs_line (h l hl), side_line (h l hl)]
theorem fs_read {ws : List Str} (hl : ∀ w ∈ ws, w.length <= 600) (h : (ws.drop 1).all isCoordB = true) : Paired (fun w f => fracW w = some f /\ w.length <= 600) (ws.drop 1) (fsOf ws) /\ ∀ f ∈ fsOf ws, FrOk4 f := by
  have key : ∀ w ∈ ws.drop 1, ∃ f, fracW w = some f /\ FrOk4 f := fun w hw => coord_frac (List.all_eq_true.mp h w hw)
  refine ⟨paired_of_get (by unfold fsOf; rw [List.length_map]) fun j w f hw hf => ?_, fun f hf => ?_⟩
  · unfold fsOf at hf
    rw [List.getElem?_map, hw] at hf
    obtain ⟨g, hg, _⟩ := key w (List.mem_of_getElem? hw)
    have : (fracW w).getD (0, 1) = f := by simpa using hf
    rw [hg] at this ⊢
    exact ⟨by rw [<- this]; rfl, hl w (List.mem_of_mem_drop (List.mem_of_getElem? hw))⟩
  · unfold fsOf at hf
    obtain ⟨w, hw, rfl⟩ := List.mem_map.mp hf
    obtain ⟨g, hg, ho⟩ := key w hw
    rw [hg]; exact ho
theorem okL_line {wss : List (List Str)} {i : Nat} {ws : List Str} (hw : wss[i]? = some ws) (h : okL wss i = true) : i < 30 /\ isLineB ws = true /\ (ws.drop 1).all isCoordB = true /\ (ws.drop 1).length <= 4 /\ (ws[0]? = some ("0" : Str) \/ ws[0]? = some ("1" : Str)) := by
  unfold okL at h
  rw [show wss.getD i [] = ws by rw [List.getD_eq_getElem?_getD, hw]; rfl, Bool.and_eq_true, Bool.and_eq_true] at h
  have hb := h.2.1
  have hb' := hb
  unfold isLineB at hb
  rw [Bool.and_eq_true, Bool.and_eq_true] at hb
  exact ⟨of_decide_eq_true h.1, hb', hb.2, (of_decide_eq_true hb.1.2).2, of_decide_eq_true hb.1.1⟩
def RowsX (H : Hp) (as : List Addr) (rs : List (List Int × Int)) : Prop := Paired (fun a (r : List Int × Int) => ∃ p, H a = some (.tup [.ref p, .int r.2]) /\ H p = some (.tup (r.1.map V.int))) as rs
theorem RowsX.same {H H' : Hp} {as : List Addr} {rs : List (List Int × Int)} (h : RowsX H as rs) (s : Same H H') : RowsX H' as rs := Paired.mapP h fun _ _ ⟨p, h1, h2⟩ => ⟨p, s _ _ h1, s _ _ h2⟩
theorem RowsX.rows {K : PySem.W.Frag} {H : Hp} {as : List Addr} {rs : List (List Int × Int)} (h : RowsX H as rs) : RowsAt K H as rs := Paired.mapP h fun _ _ ⟨p, h1, h2⟩ => ⟨p, SqT.of h1, SqT.of h2⟩
section
variable (K : PySem.W.Frag)
structure TxOk (t : Str) : Prop where
  len : t.length <= 1000000
  many : (Txt.split t ⟨#[10]⟩).length <= 1000
  lin : ∀ l ∈ Txt.split t ⟨#[10]⟩, l.length <= 1000000
  few : ∀ ws ∈ wordsOf t, ws.length <= 1000
  word : ∀ ws ∈ wordsOf t, ∀ w ∈ ws, w.length <= 600
def spRead (nt : Addr) : Sp := fun vs H Q E => ∃ t : Str, vs = [.str t] /\ TxOk t /\
  ((∀ i, i < (wordsOf t).length -> okL (wordsOf t) i = true) -> overB (rowsOf (wordsOf t)) = false -> ∀ p r as H', Same H H' -> H p = none -> H r = none -> p ≠ r -> H' p = some (.tup [.int (unitF (fssOf (wordsOf t))), .ref r]) -> H' r = some (.lst (as.map V.ref)) -> RowsX H' as (rowsOf (wordsOf t)) -> Q (.ref p) H') /\
  (∀ i d H', Same H H' -> i < (wordsOf t).length -> (∀ j, j < i -> okL (wordsOf t) j = true) -> okL (wordsOf t) i = false -> H' d = some (.xd [("line", .int (i : Nat))]) -> E (.ref nt) (some d) H') /\
  (∀ d H', Same H H' -> (∀ i, i < (wordsOf t).length -> okL (wordsOf t) i = true) -> overB (rowsOf (wordsOf t)) = true -> H' d = some (.xd [("line", .int 0)]) -> E (.ref nt) (some d) H')
end
theorem unit_ok {wss : List (List Str)} (h : ∀ i, i < wss.length -> okL wss i = true) (hw : ∀ ws ∈ wss, ∀ w ∈ ws, w.length <= 600) : 0 < unitF (fssOf wss) /\ unitF (fssOf wss) <= 2520 := by
  have hob : OkB ((fssOf wss).flatten.map (·.2)) := fun b hb => by
    obtain ⟨f, hf, rfl⟩ := List.mem_map.mp hb
    obtain ⟨fs, hfs, hf⟩ := List.mem_flatten.mp hf
    obtain ⟨ws, hws, rfl⟩ := List.mem_map.mp hfs
    obtain ⟨i, hi⟩ := List.getElem?_of_mem hws
    exact ((fs_read (hw ws hws) (okL_line hi (h i (List.getElem?_eq_some_iff.mp hi).1)).2.2.1).2 f hf).bot
  exact ⟨(lcm9 hob).1, lcm9_le hob⟩
def leftF (c b : Int) : Nat -> Int
  | 0 => c
  | n + 1 => leftF c b n / b
def digF (c b : Int) : Nat -> List Int
  | 0 => []
  | n + 1 => digF c b n ++ [leftF c b n % b]
theorem digF_len (c b : Int) : ∀ n, (digF c b n).length = n
  | 0 => rfl
  | n + 1 => by unfold digF; rw [List.length_append, digF_len c b n]; rfl
theorem digF_low {c b : Int} (hb : 0 < b) : ∀ n, ∀ d ∈ digF c b n, 0 <= d /\ d < b
  | 0, d, hd => by simp [digF] at hd
  | n + 1, d, hd => by
    unfold digF at hd
    rcases List.mem_append.mp hd with z | z
    · exact digF_low hb n d z
    · rw [List.mem_singleton.mp z]
      exact ⟨Int.emod_nonneg _ (by omega), Int.emod_lt_of_pos _ hb⟩
theorem wk2 {σ : St} {v : V} {n m : Nat} {w w' : V} (h : σ[n]? = some (some w)) (h' : σ[m]? = some (some w')) : Wk (carry [none, some n, some m] σ) [some v, some w, some w'] := by
  refine ⟨rfl, fun k u e => ?_⟩
  have e0 : carry [none, some n, some m] σ = [none, some w, some w'] := by simp [carry, h, h']
  rw [e0] at e
  match k, e with
  | 0, e => simp at e
  | 1, e => exact e
  | 2, e => exact e
  | k + 3, e => simp at e
theorem wk3 {σ : St} {v : V} {n m l : Nat} {w w' w2 : V} (h : σ[n]? = some (some w)) (h' : σ[m]? = some (some w')) (h2 : σ[l]? = some (some w2)) : Wk (carry [none, some n, some m, some l] σ) [some v, some w, some w', some w2] := by
  refine ⟨rfl, fun k u e => ?_⟩
  have e0 : carry [none, some n, some m, some l] σ = [none, some w, some w', some w2] := by simp [carry, h, h', h2]
  rw [e0] at e
  match k, e with
  | 0, e => simp at e
  | 1, e => exact e
  | 2, e => exact e
  | 3, e => exact e
  | k + 4, e => simp at e
theorem wk02 {σ : St} {v v' : V} {m : Nat} {w : V} (h : σ[m]? = some (some w)) : Wk (carry [none, none, some m] σ) [some v, some v', some w] := by
  refine ⟨rfl, fun k u e => ?_⟩
  have e0 : carry [none, none, some m] σ = [none, none, some w] := by simp [carry, h]
  rw [e0] at e
  match k, e with
  | 0, e => simp at e
  | 1, e => simp at e
  | 2, e => exact e
  | k + 3, e => simp at e
def spFac : Sp := fun vs H Q _ => ∃ a b : Int, vs = [.int a, .int b] /\ 0 <= b /\ Q (.int (Int.gcd a b)) H
structure KindOk (bs : List Int) (mo L : Int) : Prop where
  pos : 0 < L
  bot : ∀ b ∈ bs, 0 < b /\ b <= 9 /\ b ∣ L
  m0 : 0 <= mo
  few : bs ≠ [] /\ bs.length <= 4
  all : mo * L <= 1000
  big : L <= 1000000
theorem kindOk_1 : KindOk [1] 1000 1 := ⟨by decide, by decide, by decide, by decide, by decide, by decide⟩
theorem kindOk_2 : KindOk [1] 5 1 := ⟨by decide, by decide, by decide, by decide, by decide, by decide⟩
theorem kindOk_3 : KindOk [1, 1, 2, 3] 100 6 := ⟨by decide, by decide, by decide, by decide, by decide, by decide⟩
theorem kindOk_4 : KindOk [1, 5, 9] 22 45 := ⟨by decide, by decide, by decide, by decide, by decide, by decide⟩
theorem kindOk_5 : KindOk [7, 8, 1] 17 56 := ⟨by decide, by decide, by decide, by decide, by decide, by decide⟩
theorem kindOk_6 : KindOk [1, 4, 6] 83 12 := ⟨by decide, by decide, by decide, by decide, by decide, by decide⟩
structure FrK (mo L : Int) (f : Int × Int) : Prop where
  low : Low f
  dvd : f.2 ∣ L
  le : -mo <= f.1 /\ f.1 <= mo
theorem KindOk.mo {bs : List Int} {mo L : Int} (h : KindOk bs mo L) : mo <= 1000 := by
  have h1 := h.pos
  have h2 := h.all
  have h3 := Int.mul_le_mul_of_nonneg_left (show (1 : Int) <= L by omega) h.m0
  omega
theorem frK_of {bs : List Int} {mo L t b : Int} (h : KindOk bs mo L) (hb : b ∈ bs) (ht : -mo <= t /\ t <= mo) : FrK mo L (t / (Int.gcd t b : Int), b / (Int.gcd t b : Int)) := by
  obtain ⟨b0, b9, bd⟩ := h.bot b hb
  have hm := h.mo
  have hg : 0 < Int.gcd t b := Int.gcd_pos_of_ne_zero_right t (by omega)
  have g1 : (Int.gcd t b : Int) ∣ t := Int.gcd_dvd_left t b
  have g2 : (Int.gcd t b : Int) ∣ b := Int.gcd_dvd_right t b
  have hb1 : 0 < b / (Int.gcd t b : Int) := Int.ediv_pos_of_pos_of_dvd b0 (by omega) g2
  have hb2 : b / (Int.gcd t b : Int) <= b := Int.ediv_le_self _ (by omega)
  have ht1 : (t / (Int.gcd t b : Int)).natAbs <= t.natAbs := Int.natAbs_ediv_le_natAbs _ _
  refine ⟨⟨by show -9999 <= t / _ /\ t / _ <= 9999; omega, by show 1 <= b / _ /\ b / _ <= 9; omega, ?_⟩, ?_, by show -mo <= t / _ /\ t / _ <= mo; omega⟩
  · exact Int.gcd_ediv_gcd_ediv_gcd hg
  · obtain ⟨k, hk⟩ := g2
    refine Int.dvd_trans ?_ bd
    refine ⟨(Int.gcd t b : Int), ?_⟩
    exact (Int.ediv_mul_cancel (Int.gcd_dvd_right t b)).symm
section
variable (K : PySem.W.Frag)
def spWrit : Sp := fun vs H Q _ => ∃ (p : Addr) (f : Int × Int), vs = [.ref p] /\ SqT K H p [.int f.1, .int f.2] /\ Low f /\ Q (.str (written f)) H
def LAt (H : Hp) (a : Addr) (l : Ln) : Prop := ∃ c, SqT K H a [.int l.1, .ref c] /\ ∃ ps : List Addr, SqL K H c (ps.map V.ref) /\ Paired (fun p (f : Int × Int) => SqT K H p [.int f.1, .int f.2]) ps l.2
def LnsAt (H : Hp) (as : List Addr) (ls : List Ln) : Prop := Paired (LAt K H) as ls
def LNew (H H' : Hp) (p : Addr) (l : Ln) : Prop := ∃ (c : Addr) (ps : List Addr), H p = none /\ H c = none /\ H' p = some (.tup [.int l.1, .ref c]) /\ H' c = some (.lst (ps.map V.ref)) /\ Paired (fun b (f : Int × Int) => H b = none /\ H' b = some (.tup [.int f.1, .int f.2])) ps l.2
structure LnK (wd : Nat) (mo L : Int) (l : Ln) : Prop where
  side : l.1 = 0 \/ l.1 = 1
  cnt : l.2.length = wd
  fr : ∀ f ∈ l.2, FrK mo L f
structure LsOk (ls : List Ln) : Prop where
  ne : ls ≠ []
  few : ls.length <= 30
  ex : ∃ (wd : Nat) (mo L : Int), 1 <= wd /\ wd <= 4 /\ 0 < L /\ L <= 1000000 /\ 0 <= mo /\ mo * L <= 1000 /\ ∀ l ∈ ls, LnK wd mo L l
def spTextN : Sp := fun vs H Q _ => ∃ (a : Addr) (as : List Addr) (ls : List Ln), vs = [.ref a] /\ SqL K H a (as.map V.ref) /\ LnsAt K H as ls /\ LsOk ls /\ ∀ H', Same H H' -> Q (.str (textOf ls)) H'
end
section
variable {K : PySem.W.Frag} {H H' : Hp}
theorem LAt.same {a : Addr} {l : Ln} (h : LAt K H a l) (s : Same H H') : LAt K H' a l := by
  obtain ⟨c, h1, ps, h2, h3⟩ := h
  exact ⟨c, s.seqT h1, ps, s.seq h2, Paired.mapP h3 fun _ _ q => s.seqT q⟩
theorem LnsAt.same {as : List Addr} {ls : List Ln} (h : LnsAt K H as ls) (s : Same H H') : LnsAt K H' as ls := Paired.mapP h fun _ _ q => q.same s
end
theorem LnK.good {wd : Nat} {mo L : Int} {l : Ln} (h : LnK wd mo L l) : GoodL wd l := ⟨h.side, h.cnt, fun f hf => (h.fr f hf).low⟩
theorem LsOk.unit {ls : List Ln} (h : LsOk ls) : ∃ (wd : Nat) (mo L : Int), 1 <= wd /\ wd <= 4 /\ 0 <= mo /\ (∀ l ∈ ls, LnK wd mo L l) /\ 0 < unitF (ls.map (·.2)) /\ unitF (ls.map (·.2)) ∣ L /\ unitF (ls.map (·.2)) <= L /\ mo * unitF (ls.map (·.2)) <= 1000 /\ unitF (ls.map (·.2)) <= 2520 /\ ∀ l ∈ ls, ∀ f ∈ l.2, f.2 ∣ unitF (ls.map (·.2)) := by
  obtain ⟨wd, mo, L, h1, h4, hL, hL1, hm, hmL, hl⟩ := h.ex
  have hmem : ∀ b ∈ (ls.map (·.2)).flatten.map (·.2), ∃ l ∈ ls, ∃ f ∈ l.2, b = f.2 := fun b hb => by
    obtain ⟨f, hf, rfl⟩ := List.mem_map.mp hb
    obtain ⟨fs, hfs, hf⟩ := List.mem_flatten.mp hf
    obtain ⟨l, hl, rfl⟩ := List.mem_map.mp hfs
    exact ⟨l, hl, f, hf, rfl⟩
  have hT := lcmF_T hL ((ls.map (·.2)).flatten.map (·.2)) fun b hb => by
    obtain ⟨l, hl', f, hf, rfl⟩ := hmem b hb
    have := (hl l hl').fr f hf
    exact ⟨by have := this.low.bot; omega, this.dvd⟩
  have hob : OkB ((ls.map (·.2)).flatten.map (·.2)) := fun b hb => by
    obtain ⟨l, hl', f, hf, rfl⟩ := hmem b hb
    have := ((hl l hl').fr f hf).low.bot
    omega
  have hle : unitF (ls.map (·.2)) <= L := Int.le_of_dvd hL hT.2
  have h3 := Int.mul_le_mul_of_nonneg_left hle hm
  refine ⟨wd, mo, L, h1, h4, hm, hl, hT.1, hT.2, hle, by omega, lcm9_le hob, fun l hl' f hf => ?_⟩
  exact lcmF_dvd (List.mem_map.mpr ⟨f, List.mem_flatten.mpr ⟨l.2, List.mem_map.mpr ⟨l, hl', rfl⟩, hf⟩, rfl⟩)
theorem LsOk.over {ls : List Ln} (h : LsOk ls) : overB (rowsL ls) = false := by
  obtain ⟨wd, mo, L, _, _, hm, hl, u0, _, _, u1, _, ud⟩ := h.unit
  unfold overB
  rw [List.any_eq_false]
  intro r hr
  obtain ⟨l, hl', rfl⟩ := List.mem_map.mp hr
  rw [Bool.not_eq_true, List.any_eq_false]
  intro n hn
  obtain ⟨f, hf, rfl⟩ := List.mem_map.mp hn
  have fk := (hl l hl').fr f hf
  have hb := fk.low.bot
  have h2 : 0 < unitF (ls.map (·.2)) / f.2 := Int.ediv_pos_of_pos_of_dvd u0 (by omega) (ud l hl' f hf)
  have h3 : unitF (ls.map (·.2)) / f.2 <= unitF (ls.map (·.2)) := Int.ediv_le_self _ (by omega)
  have h4 := Int.mul_le_mul_of_nonneg_left h3 hm
  have h5 := Int.mul_le_mul_of_nonneg_right fk.le.2 (show 0 <= unitF (ls.map (·.2)) / f.2 by omega)
  have h6 := Int.mul_le_mul_of_nonneg_right fk.le.1 (show 0 <= unitF (ls.map (·.2)) / f.2 by omega)
  rw [Int.neg_mul] at h6
  unfold inU
  intro z
  have z := of_decide_eq_true z
  split at z <;> omega
theorem join_len (c : Nat) (l : List Str) {B : Nat} (h : ∀ w ∈ l, w.length <= B) : (Str.join ⟨#[c]⟩ l).length <= l.length * (B + 1) := by
  rw [<- cs_length, cs_join]
  induction l with
  | nil => simp [jn]
  | cons w r ih =>
    have hw := h w (List.mem_cons_self ..)
    have e := cs_length w
    cases r with
    | nil => show (cs w).length <= 1 * (B + 1); omega
    | cons v r =>
      have ih := ih fun x hx => h x (List.mem_cons_of_mem _ hx)
      show (cs w ++ c :: jn c ((v :: r).map cs)).length <= (r.length + 1 + 1) * (B + 1)
      rw [List.length_append, List.length_cons]
      have e2 : (r.length + 1 + 1) * (B + 1) = (r.length + 1) * (B + 1) + (B + 1) := by rw [Nat.add_mul (r.length + 1) 1, Nat.one_mul]
      rw [e2]
      have ih : (jn c ((v :: r).map cs)).length <= (r.length + 1) * (B + 1) := ih
      omega
theorem word_len {wd : Nat} {mo L : Int} {l : Ln} (h : LnK wd mo L l) : ∀ w ∈ lineW l, w.length <= 20 := fun w hw => by
  rcases List.mem_cons.mp hw with e | e
  · rw [e]; have := num_len (t := l.1) (by have := h.side; omega); omega
  · obtain ⟨f, hf, rfl⟩ := List.mem_map.mp e
    exact written_len (h.fr f hf).low
theorem line_len {wd : Nat} {mo L : Int} {l : Ln} (h : LnK wd mo L l) (h4 : wd <= 4) : (lineTxt l).length <= 105 := by
  have := join_len 32 (lineW l) (word_len h)
  have e : (lineW l).length = wd + 1 := by unfold lineW; rw [List.length_cons, List.length_map, h.cnt]
  rw [e] at this
  unfold lineTxt
  have h5 : (wd + 1) * 21 <= 5 * 21 := Nat.mul_le_mul_right _ (by omega)
  omega
theorem plain_ints' (xs : List Int) : (xs.map V.int).all plainV = true := by
  rw [List.all_map]; exact List.all_eq_true.mpr fun _ _ => rfl
structure RdOk (ls : List Ln) : Prop where
  ne : ls ≠ []
  few : ls.length <= 30
  ex : ∃ wd : Nat, 1 <= wd /\ wd <= 4 /\ ∀ l ∈ ls, GoodL wd l
  over : overB (rowsL ls) = false
theorem LsOk.rd {ls : List Ln} (h : LsOk ls) : RdOk ls := by
  obtain ⟨wd, mo, L, h1, h4, _, _, _, _, hl⟩ := h.ex
  exact ⟨h.ne, h.few, ⟨wd, h1, h4, fun l hl' => (hl l hl').good⟩, h.over⟩
theorem RdOk.words {ls : List Ln} (h : RdOk ls) : (∀ i, i < (wordsOf (textOf ls)).length -> okL (wordsOf (textOf ls)) i = true) /\ fssOf (wordsOf (textOf ls)) = ls.map (·.2) /\ rowsOf (wordsOf (textOf ls)) = rowsL ls := by
  obtain ⟨wd, h1, h4, hg⟩ := h.ex
  rw [words_text h.ne hg]
  exact ⟨okL_lines hg h1 h4 h.few, (rows_lines hg).1, (rows_lines hg).2⟩
theorem word_lenG {wd : Nat} {l : Ln} (h : GoodL wd l) : ∀ w ∈ lineW l, w.length <= 20 := fun w hw => by
  rcases List.mem_cons.mp hw with e | e
  · rw [e]; have := num_len (t := l.1) (by have := h.side; omega); omega
  · obtain ⟨f, hf, rfl⟩ := List.mem_map.mp e
    exact written_len (h.low f hf)
theorem line_lenG {wd : Nat} {l : Ln} (h : GoodL wd l) (h4 : wd <= 4) : (lineTxt l).length <= 105 := by
  have := join_len 32 (lineW l) (word_lenG h)
  have e : (lineW l).length = wd + 1 := by unfold lineW; rw [List.length_cons, List.length_map, h.cnt]
  rw [e] at this
  unfold lineTxt
  have h5 : (wd + 1) * 21 <= 5 * 21 := Nat.mul_le_mul_right _ (by omega)
  omega
theorem RdOk.tx {ls : List Ln} (h : RdOk ls) : TxOk (textOf ls) := by
  obtain ⟨wd, h1, h4, hg⟩ := h.ex
  have hlt : ∀ w ∈ ls.map lineTxt, w.length <= 105 := fun w hw => by
    obtain ⟨l, hl', rfl⟩ := List.mem_map.mp hw
    exact line_lenG (hg l hl') h4
  have hf := h.few
  have hj := join_len 10 (ls.map lineTxt) hlt
  rw [List.length_map] at hj
  have hwd := words_text h.ne hg
  refine ⟨?_, ?_, fun l hl' => ?_, fun ws hws => ?_, fun ws hws w hw => ?_⟩
  · unfold textOf
    have := Nat.mul_le_mul_right (105 + 1) hf
    omega
  · rw [split_text h.ne hg, List.length_map]; omega
  · rw [split_text h.ne hg] at hl'
    have := hlt l hl'; omega
  · rw [hwd] at hws
    obtain ⟨l, hl', rfl⟩ := List.mem_map.mp hws
    show (_ :: _).length <= 1000
    rw [List.length_cons, List.length_map, (hg l hl').cnt]; omega
  · rw [hwd] at hws
    obtain ⟨l, hl', rfl⟩ := List.mem_map.mp hws
    have := word_lenG (hg l hl') w hw; omega
structure RdT (t : Str) (ls : List Ln) : Prop where
  tx : TxOk t
  w1 : ∀ i, i < (wordsOf t).length -> okL (wordsOf t) i = true
  w2 : fssOf (wordsOf t) = ls.map (·.2)
  w3 : rowsOf (wordsOf t) = rowsL ls
  ov : overB (rowsL ls) = false
theorem RdOk.t {t : Str} {ls : List Ln} (h : RdOk ls) (ht : t = textOf ls) : RdT t ls := by
  subst ht
  exact ⟨h.tx, h.words.1, h.words.2.1, h.words.2.2, h.over⟩
theorem first48 {w : Str} {c : Nat} (hc : (cs w)[0]? = some c) : decide (V.str ⟨#[c]⟩ = V.str "0") = decide ((cs w)[0]? = some 48) := by
  rw [hc]
  refine decide_eq_decide.mpr ⟨fun z => ?_, fun z => ?_⟩
  · injection z with z
    have : (⟨#[c]⟩ : Str).cps = ("0" : Str).cps := by rw [z]
    have h2 : ("0" : Str).cps = #[48] := by decide +kernel
    rw [h2] at this
    have : c = 48 := by simpa using this
    rw [this]
  · injection z with z
    rw [z]
    exact congrArg V.str (by decide +kernel)
theorem zero_len {w : Str} (h : (cs w)[0]? = some 48) : w = "0" ↔ w.length = 1 := by
  have hl := cs_length w
  constructor
  · intro e; rw [e]; decide +kernel
  · intro e
    refine str_ext ?_
    rw [e] at hl
    match h2 : cs w, hl, h with
    | [c], _, h => have : c = 48 := by simpa [h2] using h
                   rw [this]; decide +kernel
theorem split_one {u : Str} (h : 47 ∉ cs u) : Txt.split u ⟨#[47]⟩ = [u] := split_join (c := 47) (l := [u]) (by simp) (fun w hw => by rw [List.mem_singleton.mp hw]; exact h)
theorem split_cons {u a b : Str} (h : cs u = cs a ++ 47 :: cs b) (ha : 47 ∉ cs a) : Txt.split u ⟨#[47]⟩ = a :: Txt.split b ⟨#[47]⟩ := by
  have h1 := StrLaws.join_split b ⟨#[47]⟩
  have h2 := StrLaws.split_free b 47
  have h3 := PyProof.Rows.split_pos b ⟨#[47]⟩
  have e : u = Str.join ⟨#[47]⟩ (a :: Txt.split b ⟨#[47]⟩) := str_ext (by
    rw [cs_join, h]
    have e2 : cs b = jn 47 ((Txt.split b ⟨#[47]⟩).map cs) := by rw [<- cs_join, h1]
    cases hs : Txt.split b ⟨#[47]⟩ with
    | nil => rw [hs] at h3; exact absurd h3 (by decide)
    | cons x r =>
      rw [hs] at e2
      rw [e2]
      rfl)
  rw [e]
  exact split_join (by simp) fun w hw => by
    rcases List.mem_cons.mp hw with z | z
    · rw [z]; exact ha
    · exact h2 w z
theorem split_two {b : Str} (h : 47 ∈ cs b) : 2 <= (Txt.split b ⟨#[47]⟩).length := by
  have h1 := StrLaws.join_split b ⟨#[47]⟩
  have h2 := StrLaws.split_free b 47
  have h3 := PyProof.Rows.split_pos b ⟨#[47]⟩
  match hs : Txt.split b ⟨#[47]⟩ with
  | [] => rw [hs] at h3; exact absurd h3 (by decide)
  | [x] =>
    rw [hs] at h1 h2
    have : x = b := h1
    exact absurd (by rw [this]; exact h) (h2 x (List.mem_singleton.mpr rfl))
  | _ :: _ :: _ => exact Nat.succ_le_succ (Nat.succ_le_succ (Nat.zero_le _))
theorem fold_ge : ∀ (l : List Nat) (acc : Nat), acc <= l.foldl (fun acc c => acc * 10 + (c - 48)) acc
  | [], _ => Nat.le_refl _
  | c :: l, acc => Nat.le_trans (by omega) (fold_ge l (acc * 10 + (c - 48)))
structure NumV (w : Str) (n : Nat) : Prop where
  int : PySem.intText? w = some (n : Int)
  le : n <= 9999
  len : w.length <= 4
  dig : NumText.AllDigits (cs w)
  ne : cs w ≠ []
  val : NumText.digitsVal (cs w) = n
  zero : n = 0 ↔ (cs w)[0]? = some 48
  small : 2 <= n /\ n <= 9 ↔ w ∈ botS
theorem num_v {w : Str} (h : isNumB w = true) : ∃ n, NumV w n := by
  obtain ⟨n, h1, h2, h3⟩ := num_int h
  unfold isNumB at h
  rw [Bool.and_eq_true, Bool.and_eq_true] at h
  obtain ⟨⟨z1, z2⟩, z3⟩ := h
  have hd : NumText.AllDigits (cs w) := fun c hc => mem_figs.mp (of_decide_eq_true (List.all_eq_true.mp z3 c hc))
  have hl := cs_length w
  have z1 := of_decide_eq_true z1
  have hne : cs w ≠ [] := fun z => by rw [z] at hl; have : (0 : Nat) = w.length := hl; omega
  have e := PySem.intText_digits (x := w) hd hne (by omega)
  rw [h1] at e
  injection e with e
  have hv : NumText.digitsVal (cs w) = n := by have : ((NumText.digitsVal (cs w) : Nat) : Int) = n := e.symm; omega
  have two : ∀ c d r, cs w = c :: d :: r -> 10 <= n := fun c d r ec => by
    have h0 : c ≠ 48 := fun z => by
      rw [ec, z, decide_eq_true (show (48 :: d :: r)[0]? = some 48 from rfl), Bool.true_and, Bool.not_not] at z2
      have e0 := of_decide_eq_true z2
      have : cs w = [48] := by rw [e0]; decide +kernel
      rw [ec] at this
      cases this
    have hc := hd c (by rw [ec]; exact List.mem_cons_self ..)
    have hg := fold_ge r (((0 * 10 + (c - 48)) * 10) + (d - 48))
    rw [<- hv, ec]
    exact Nat.le_trans (by omega) hg
  have one : ∀ c, cs w = [c] -> n = c - 48 := fun c ec => by
    rw [<- hv, ec]
    show 0 * 10 + (c - 48) = _
    omega
  refine ⟨n, h1, h2, h3, hd, hne, hv, ?_, ?_⟩
  · match ec : cs w with
    | [] => exact absurd ec hne
    | [c] =>
      have hc := hd c (by rw [ec]; exact List.mem_cons_self ..)
      have := one c ec
      refine ⟨fun z => by show some c = some 48; rw [show c = 48 by omega], fun z => ?_⟩
      have z : some c = some 48 := z
      injection z with z
      omega
    | c :: d :: r =>
      have := two c d r ec
      refine ⟨fun z => by omega, fun z => ?_⟩
      rw [ec, decide_eq_true z, Bool.true_and, Bool.not_not] at z2
      have e0 := of_decide_eq_true z2
      have : cs w = [48] := by rw [e0]; decide +kernel
      rw [ec] at this
      cases this
  · constructor
    · intro hn
      match ec : cs w with
      | [] => exact absurd ec hne
      | [c] =>
        have hc := hd c (by rw [ec]; exact List.mem_cons_self ..)
        have hn1 := one c ec
        have ew : ∀ (s : Str), cs s = [c] -> w = s := fun s es => str_ext (by rw [ec, es])
        have hcc : c = 50 \/ c = 51 \/ c = 52 \/ c = 53 \/ c = 54 \/ c = 55 \/ c = 56 \/ c = 57 := by omega
        rcases hcc with z | z | z | z | z | z | z | z
        · rw [ew "2" (by rw [z]; decide +kernel)]; decide +kernel
        · rw [ew "3" (by rw [z]; decide +kernel)]; decide +kernel
        · rw [ew "4" (by rw [z]; decide +kernel)]; decide +kernel
        · rw [ew "5" (by rw [z]; decide +kernel)]; decide +kernel
        · rw [ew "6" (by rw [z]; decide +kernel)]; decide +kernel
        · rw [ew "7" (by rw [z]; decide +kernel)]; decide +kernel
        · rw [ew "8" (by rw [z]; decide +kernel)]; decide +kernel
        · rw [ew "9" (by rw [z]; decide +kernel)]; decide +kernel
      | c :: d :: r => have := two c d r ec; omega
    · intro hb
      obtain ⟨m, hm, m2, m9, _⟩ := bot_int hb
      rw [h1] at hm
      injection hm with hm
      omega
theorem bot_num {w : Str} (h : w ∈ botS) : isNumB w = true /\ 47 ∉ cs w := by
  simp only [botS, List.mem_cons, List.not_mem_nil, or_false] at h
  rcases h with h | h | h | h | h | h | h | h <;> subst h <;> exact ⟨by decide +kernel, by decide +kernel⟩
theorem unsg_ne (w : Str) : unsg w = w ↔ (cs w)[0]? ≠ some 45 := by
  rcases unsg_cs w with ⟨h, e⟩ | ⟨h, e⟩
  · refine ⟨fun z => ?_, fun z => absurd h z⟩
    rw [z] at e
    have := congrArg List.length e
    rw [List.length_cons] at this
    omega
  · exact ⟨fun _ => h, fun _ => e⟩
theorem starts_mz {w a : Str} {r : List Nat} (h : cs (unsg w) = cs a ++ r) (ha : cs a ≠ []) : Txt.startswith w "-0" = (decide ((cs w)[0]? = some 45) && decide ((cs a)[0]? = some 48)) := by
  have hz : cs ("-0" : Str) = [45, 48] := by decide +kernel
  have hz2 : ("-0" : Str).length = 2 := by decide +kernel
  rw [starts_cs, hz, hz2]
  have hl := cs_length w
  cases ea : cs a with
  | nil => exact absurd ea ha
  | cons c s =>
    rw [ea] at h
    rcases unsg_cs w with ⟨q, e⟩ | ⟨q, e⟩
    · rw [h] at e
      rw [e, decide_eq_true (show 2 <= w.length by rw [<- hl, e]; show 2 <= (s ++ r).length + 1 + 1; omega), Bool.true_and]
      show ([45, c] == [45, 48]) = (true && decide (some c = some 48))
      by_cases z : c = 48
      · rw [z]; rfl
      · rw [beq_false_of_ne (fun y => z (by simpa using y)), decide_eq_false (fun y => z (by injection y))]; rfl
    · rw [decide_eq_false q, Bool.false_and]
      have : ((cs w).take 2 == [45, 48]) = false := by
        refine beq_false_of_ne fun y => q ?_
        have : ((cs w).take 2)[0]? = some 45 := by rw [y]; rfl
        rw [List.getElem?_take_of_lt (by decide)] at this
        exact this
      rw [this, Bool.and_false]
def sgnW (w : Str) (n : Nat) : Int := n * (if (cs w)[0]? = some 45 then -1 else 1)
theorem sgn_read {w a b : Str} {n : Nat} (h : NumV b n) (hs : ((cs w)[0]? = some 45 /\ cs a = 45 :: cs b) \/ ((cs w)[0]? ≠ some 45 /\ a = b)) : PySem.intText? a = some (sgnW w n) := by
  unfold sgnW
  rcases hs with ⟨q, e⟩ | ⟨q, e⟩
  · have hl := cs_length a
    have hl2 := cs_length b
    have h4 := h.len
    have e1 := PySem.intText_neg (x := a) e h.dig h.ne (by rw [<- hl, e]; show _ + 1 <= _; omega)
    rw [if_pos q, e1]
    show some (-((NumText.digitsVal (cs b) : Nat) : Int)) = _
    rw [h.val, Int.mul_neg, Int.mul_one]
  · rw [if_neg q, e, h.int, Int.mul_one]
theorem size_cases (w : Str) :
    (Txt.split (unsg w) "/" = [unsg w] /\ (isNumB (unsg w) = false -> isCoordB w = false) /\ ∀ n, NumV (unsg w) n -> isNumB (unsg w) = true -> isCoordB w = !(decide ((cs w)[0]? = some 45) && decide (n = 0)) /\ fracW w = some (sgnW w n, 1)) \/
    (∃ a b : Str, Txt.split (unsg w) "/" = [a, b] /\ a.length <= w.length /\ b.length <= w.length /\ (isNumB a = false \/ isNumB b = false -> isCoordB w = false) /\ ∀ n m, NumV a n -> NumV b m -> isNumB a = true -> isCoordB w = (decide (2 <= m /\ m <= 9 /\ Int.gcd n m = 1) && !(decide ((cs w)[0]? = some 45) && decide (n = 0))) /\ fracW w = some (sgnW w n, (m : Int))) \/
    (3 <= (Txt.split (unsg w) "/").length /\ isCoordB w = false) := by
  obtain ⟨pa, ep, hs⟩ := part_sign w
  by_cases hm : 47 ∈ cs (unsg w)
  · obtain ⟨xa, xb, ex, hna⟩ := first_of hm
    have hp : Txt.partition (unsg w) "/" = ((⟨xa.toArray⟩ : Str), ("/" : Str), (⟨xb.toArray⟩ : Str)) := by
      rw [slash_eq]
      exact part_some (a := ⟨xa.toArray⟩) (b := ⟨xb.toArray⟩) ex hna
    have hsp := split_cons (u := unsg w) (a := ⟨xa.toArray⟩) (b := ⟨xb.toArray⟩) ex hna
    have hc : isCoordB w = (isNumB ⟨xa.toArray⟩ && !Txt.startswith w "-0" && (decide ((⟨xb.toArray⟩ : Str) ∈ botS) && decide (Int.gcd (numOf ⟨xa.toArray⟩) (numOf ⟨xb.toArray⟩) = 1))) := by
      unfold isCoordB
      rw [hp]
      show (isNumB ⟨xa.toArray⟩ && !Txt.startswith w "-0" && (decide (("/" : Str) = "") || _)) = _
      rw [decide_eq_false (show ¬ ("/" : Str) = "" by decide +kernel), Bool.false_or]
    have hul := unsg_le w
    have hlu := cs_length (unsg w)
    rw [ex, List.length_append, List.length_cons] at hlu
    by_cases hb : 47 ∈ cs (⟨xb.toArray⟩ : Str)
    · refine .inr (.inr ⟨?_, ?_⟩)
      · rw [slash_eq, hsp, List.length_cons]
        have := split_two hb
        omega
      · rw [hc, decide_eq_false (fun z => (bot_num z).2 hb), Bool.false_and, Bool.and_false]
    · refine .inr (.inl ⟨⟨xa.toArray⟩, ⟨xb.toArray⟩, ?_, ?_, ?_, ?_, ?_⟩)
      · rw [slash_eq, hsp, split_one hb]
      · rw [<- cs_length]; show xa.length <= _; omega
      · rw [<- cs_length]; show xb.length <= _; omega
      · rintro (z | z)
        · rw [hc, z]; rfl
        · rw [hc, decide_eq_false (fun y => by rw [(bot_num y).1] at z; cases z), Bool.false_and, Bool.and_false]
      · intro n m hn hm2 hN
        have o1 : numOf ⟨xa.toArray⟩ = n := by unfold numOf; rw [hn.int]; rfl
        have o2 : numOf ⟨xb.toArray⟩ = m := by unfold numOf; rw [hm2.int]; rfl
        refine ⟨?_, ?_⟩
        · rw [hc, hN, o1, o2, starts_mz (a := ⟨xa.toArray⟩) ex hn.ne, Bool.true_and, Bool.and_comm]
          congr 1
          · rw [<- Bool.decide_and]
            exact decide_eq_decide.mpr ⟨fun ⟨z1, z2⟩ => ⟨(hm2.small.mpr z1).1, (hm2.small.mpr z1).2, z2⟩, fun ⟨z1, z2, z3⟩ => ⟨hm2.small.mp ⟨z1, z2⟩, z3⟩⟩
          · rw [decide_eq_decide.mpr hn.zero]
        · unfold fracW
          rw [ep, hp]
          show ((PySem.intText? pa).bind fun t => if (⟨xb.toArray⟩ : Str) = "" then some (t, 1) else (PySem.intText? (⟨xb.toArray⟩ : Str)).map fun b => (t, b)) = _
          rw [hp] at hs
          rw [sgn_read hn hs, Option.bind_some, if_neg (fun z => hm2.ne (by rw [z]; exact empty_cs)), hm2.int]
          rfl
  · have hp : Txt.partition (unsg w) "/" = (unsg w, ("" : Str), ("" : Str)) := by rw [slash_eq, part_none hm, empty_is]
    have hc : isCoordB w = (isNumB (unsg w) && !Txt.startswith w "-0") := by
      unfold isCoordB
      rw [hp]
      show (isNumB (unsg w) && !Txt.startswith w "-0" && (decide (("" : Str) = "") || _)) = _
      rw [decide_eq_true (show ("" : Str) = "" from rfl), Bool.true_or, Bool.and_true]
    refine .inl ⟨by rw [slash_eq]; exact split_one hm, fun z => by rw [hc, z]; rfl, fun n hn hN => ⟨?_, ?_⟩⟩
    · rw [hc, hN, starts_mz (a := unsg w) (r := []) (by rw [List.append_nil]) hn.ne, Bool.true_and, decide_eq_decide.mpr hn.zero]
    · unfold fracW
      rw [ep, hp]
      show ((PySem.intText? pa).bind fun t => if ("" : Str) = "" then some (t, 1) else _) = _
      rw [hp] at hs
      rw [sgn_read hn hs, Option.bind_some, if_pos rfl]
def negW (w : Str) : Bool := decide ((cs w)[0]? = some 45)
structure SizeG (w : Str) (ps : List Str) (a : Str) (n : Nat) : Prop where
  at0 : ps[0]? = some a
  num : NumV a n
  or : (ps.length = 1 /\ isCoordB w = !(negW w && decide (n = 0)) /\ fracW w = some (sgnW w n, 1)) \/ (ps.length = 2 /\ ∃ b m, ps[1]? = some b /\ NumV b m /\ isCoordB w = (decide (2 <= m /\ m <= 9 /\ Int.gcd n m = 1) && !(negW w && decide (n = 0))) /\ fracW w = some (sgnW w n, (m : Int)))
theorem size_two (w : Str) (hl : w.length <= 600) : (3 <= (Txt.split (unsg w) "/").length /\ isCoordB w = false) \/ ((Txt.split (unsg w) "/").length <= 2 /\ (∀ x ∈ Txt.split (unsg w) "/", x.length <= 1000) /\ ((∃ x ∈ Txt.split (unsg w) "/", isNumB x = false) -> isCoordB w = false) /\ ((∀ x ∈ Txt.split (unsg w) "/", isNumB x = true) -> ∃ a n, SizeG w (Txt.split (unsg w) "/") a n)) := by
  have hul := unsg_le w
  rcases size_cases w with ⟨e, h1, h2⟩ | ⟨a, b, e, la, lb, h1, h2⟩ | h
  · rw [e]
    refine .inr ⟨by show 1 <= 2; decide, fun x hx => ?_, fun ⟨x, hx, hn⟩ => ?_, fun h => ?_⟩
    · rw [List.mem_singleton.mp hx]; omega
    · rw [List.mem_singleton.mp hx] at hn; exact h1 hn
    · have hN := h _ (List.mem_singleton.mpr rfl)
      obtain ⟨n, hn⟩ := num_v hN
      exact ⟨unsg w, n, rfl, hn, .inl ⟨rfl, h2 n hn hN⟩⟩
  · rw [e]
    refine .inr ⟨by show 2 <= 2; decide, fun x hx => ?_, fun ⟨x, hx, hn⟩ => ?_, fun h => ?_⟩
    · rcases List.mem_cons.mp hx with z | z
      · rw [z]; omega
      · rw [List.mem_singleton.mp z]; omega
    · rcases List.mem_cons.mp hx with z | z
      · rw [z] at hn; exact h1 (.inl hn)
      · rw [List.mem_singleton.mp z] at hn; exact h1 (.inr hn)
    · have hA := h a (List.mem_cons_self ..)
      have hB := h b (List.mem_cons_of_mem _ (List.mem_singleton.mpr rfl))
      obtain ⟨n, hn⟩ := num_v hA
      obtain ⟨m, hm⟩ := num_v hB
      exact ⟨a, n, rfl, hn, .inr ⟨rfl, b, m, rfl, hm, h2 n m hn hm hA⟩⟩
  · exact .inl h
theorem picked_pos {p : Nat -> Bool} {f : Nat -> V} {n : Nat} (h : 0 < (picked p f n).length) : ∃ i, i < n /\ p i = true := by
  unfold picked at h
  rw [List.length_map] at h
  obtain ⟨i, hi⟩ := List.exists_mem_of_length_pos h
  have := List.mem_filter.mp hi
  exact ⟨i, List.mem_range.mp this.1, this.2⟩
theorem picked_nil {p : Nat -> Bool} {f : Nat -> V} {n : Nat} (h : ¬ 0 < (picked p f n).length) : ∀ i, i < n -> p i = false := fun i hi => by
  cases hp : p i with
  | false => rfl
  | true =>
    refine absurd ?_ h
    unfold picked
    rw [List.length_map]
    exact List.length_pos_of_mem (List.mem_filter.mpr ⟨List.mem_range.mpr hi, hp⟩)
theorem slice_to1 (w : Str) : (V.str (Txt.slice w none (some 1)) = V.str "-") ↔ (cs w)[0]? = some 45 := by
  have hl := cs_length w
  by_cases h : 1 <= w.length
  · have e : Txt.slice w none (some 1) = StrLaws.sliceText w none (some 1) := rfl
    have e2 : cs (Txt.slice w none (some 1)) = (cs w).take 1 := by
      rw [e, StrLaws.sliceText_to ⟨by decide, by show (1 : Int) <= ((cs w).length : Int); omega⟩]
      rfl
    match ew : cs w, e2, hl with
    | [], _, hl => have : (0 : Nat) = w.length := hl
                   omega
    | c :: r, e2, _ =>
      constructor
      · intro z
        injection z with z
        rw [z, minus_cs] at e2
        show some c = some 45
        have : [45] = [c] := e2
        injection this with this
        rw [this]
      · intro z
        have z : some c = some 45 := z
        injection z with z
        refine congrArg V.str (str_ext ?_)
        rw [e2, minus_cs, z]
        rfl
  · have h0 : w.length = 0 := by omega
    have hc : cs w = [] := List.eq_nil_of_length_eq_zero (by omega)
    have h1 := Txt.slice_le w none (some 1)
    constructor
    · intro z
      injection z with z
      rw [z] at h1
      have : ("-" : Str).length = 1 := by decide +kernel
      omega
    · intro z; rw [hc] at z; cases z
def spSizeW : Sp := fun vs H Q _ => ∃ w : Str, vs = [.str w] /\ w.length <= 600 /\ (isCoordB w = false -> ∀ H', Same H H' -> Q .non H') /\ ∀ p f H', isCoordB w = true -> fracW w = some f -> Same H H' -> H p = none -> H' p = some (.tup [.int f.1, .int f.2]) -> Q (.ref p) H'
theorem picked_posI {p : Nat -> Bool} {f : Nat -> V} {n : Nat} (h : (0 : Int) < (((picked p f n).length : Nat) : Int)) : ∃ i, i < n /\ p i = true := picked_pos (f := f) (by omega)
theorem picked_nilI {p : Nat -> Bool} {f : Nat -> V} {n : Nat} (h : ¬ (0 : Int) < (((picked p f n).length : Nat) : Int)) : ∀ i, i < n -> p i = false := picked_nil (f := f) (by omega)
structure GdL (ls : List Ln) : Prop where
  few : ls.length <= 30
  ex : ∃ wd : Nat, 1 <= wd /\ wd <= 4 /\ ∀ l ∈ ls, GoodL wd l
theorem LsOk.gd {ls : List Ln} (h : LsOk ls) : GdL ls := ⟨h.few, h.rd.ex⟩
theorem GdL.unit {ls : List Ln} (h : GdL ls) : ∃ wd : Nat, wd <= 4 /\ (∀ l ∈ ls, GoodL wd l) /\ 0 < unitF (ls.map (·.2)) /\ unitF (ls.map (·.2)) <= 2520 /\ ∀ l ∈ ls, ∀ f ∈ l.2, f.2 ∣ unitF (ls.map (·.2)) := by
  obtain ⟨wd, h1, h4, hl⟩ := h.ex
  have hob : OkB ((ls.map (·.2)).flatten.map (·.2)) := fun b hb => by
    obtain ⟨f, hf, rfl⟩ := List.mem_map.mp hb
    obtain ⟨fs, hfs, hf⟩ := List.mem_flatten.mp hf
    obtain ⟨l, hl', rfl⟩ := List.mem_map.mp hfs
    have := ((hl l hl').low f hf).bot
    omega
  exact ⟨wd, h4, hl, (lcm9 hob).1, lcm9_le hob, fun l hl' f hf => lcmF_dvd (List.mem_map.mpr ⟨f, List.mem_flatten.mpr ⟨l.2, List.mem_map.mpr ⟨l, hl', rfl⟩, hf⟩, rfl⟩)⟩
section
variable (K : PySem.W.Frag)
def spUnitG : Sp := fun vs H Q _ => ∃ (a : Addr) (as : List Addr) (ls : List Ln), vs = [.ref a] /\ SqL K H a (as.map V.ref) /\ LnsAt K H as ls /\ GdL ls /\ Q (.int (unitF (ls.map (·.2)))) H
def spRowsG : Sp := fun vs H Q _ => ∃ (a : Addr) (as : List Addr) (ls : List Ln), vs = [.ref a] /\ SqL K H a (as.map V.ref) /\ LnsAt K H as ls /\ GdL ls /\ ∀ r bs H', Same H H' -> H r = none -> H' r = some (.lst (bs.map V.ref)) -> RowsAt K H' bs (rowsL ls) -> Q (.ref r) H'
end
theorem rowsAt_deep {K : PySem.W.Frag} {H : Hp} : ∀ {as bs : List Addr} {rs : List (List Int × Int)}, RowsAt K H as rs -> RowsAt K H bs rs -> Paired (Deep K H 3) (as.map V.ref) (bs.map V.ref)
  | [], [], _, .nil, .nil => .nil
  | [], _ :: _, _, h, h' => by cases h; cases h'
  | _ :: _, [], _, h, h' => by cases h'; cases h
  | _ :: _, _ :: _, _, .cons ⟨p, h1, h2⟩ t, .cons ⟨p', h1', h2'⟩ t' => .cons (.inr ⟨_, _, _, _, rfl, rfl, .inr ⟨h1, h1'⟩, .cons (.inr ⟨_, _, _, _, rfl, rfl, .inr ⟨h2, h2'⟩, Deep.all (plain_ints' _)⟩) (.cons (Deep.same rfl) .nil)⟩) (rowsAt_deep t t')
def okW (wd : Nat) (i : Nat) (ws : List Str) : Bool := decide (i < 30) && (isLineB ws && decide (ws.length = wd))
def lnOf (ws : List Str) : Ln := (sideOf ws, fsOf ws)
theorem okL_is {wss : List (List Str)} {i : Nat} {ws w0 : List Str} (h : wss[i]? = some ws) (h0 : wss[0]? = some w0) : okL wss i = okW w0.length i ws := by
  unfold okL okW
  rw [List.getD_eq_getElem?_getD, h, List.getD_eq_getElem?_getD, h0]
  rfl
theorem coord_low {w : Str} (h : isCoordB w = true) {f : Int × Int} (hf : fracW w = some f) : Low f := by
  rcases size_cases w with ⟨e, h1, h2⟩ | ⟨a, b, e, la, lb, h1, h2⟩ | h3
  · cases hN : isNumB (unsg w) with
    | false => rw [h1 hN] at h; cases h
    | true =>
      obtain ⟨n, hn⟩ := num_v hN
      obtain ⟨_, e2⟩ := h2 n hn hN
      rw [e2] at hf
      injection hf with hf
      have := hn.le
      rw [<- hf]
      refine ⟨?_, by show (1 : Int) <= 1 /\ (1 : Int) <= 9; decide, Int.gcd_one_right _⟩
      show -9999 <= sgnW w n /\ sgnW w n <= 9999
      unfold sgnW
      split <;> omega
  · cases hA : isNumB a with
    | false => rw [h1 (.inl hA)] at h; cases h
    | true =>
      cases hB : isNumB b with
      | false => rw [h1 (.inr hB)] at h; cases h
      | true =>
        obtain ⟨n, hn⟩ := num_v hA
        obtain ⟨m, hm⟩ := num_v hB
        obtain ⟨e1, e2⟩ := h2 n m hn hm hA
        rw [e2] at hf
        injection hf with hf
        rw [e1, Bool.and_eq_true] at h
        obtain ⟨m2, m9, hg⟩ := of_decide_eq_true h.1
        have := hn.le
        rw [<- hf]
        refine ⟨?_, ⟨by show (1 : Int) <= (m : Int); omega, by show (m : Int) <= 9; omega⟩, ?_⟩
        · show -9999 <= sgnW w n /\ sgnW w n <= 9999
          unfold sgnW
          split <;> omega
        · show Int.gcd (sgnW w n) m = 1
          unfold sgnW
          split
          · rw [Int.mul_neg, Int.mul_one, Int.neg_gcd]; exact hg
          · rw [Int.mul_one]; exact hg
  · rw [h3.2] at h; cases h
theorem good_line {ws : List Str} {wd : Nat} (h : isLineB ws = true) (hl : ws.length = wd) : GoodL (wd - 1) (lnOf ws) /\ 1 <= wd - 1 /\ wd - 1 <= 4 := by
  unfold isLineB at h
  rw [Bool.and_eq_true, Bool.and_eq_true] at h
  obtain ⟨⟨h1, h2⟩, h3⟩ := h
  have h1 := of_decide_eq_true h1
  have h2 := of_decide_eq_true h2
  rw [List.length_drop] at h2
  refine ⟨⟨?_, ?_, fun f hf => ?_⟩, by omega, by omega⟩
  · show sideOf ws = 0 \/ sideOf ws = 1
    unfold sideOf
    cases ws with
    | nil => rcases h1 with z | z <;> cases z
    | cons w r =>
      rcases h1 with z | z
      · have z : w = "0" := by simpa using z
        refine .inl ?_
        show numOf w = 0
        rw [z]; unfold numOf; rw [read_nat (n := 0) (by rw [dg_small (by decide)]; decide +kernel) (by decide)]; rfl
      · have z : w = "1" := by simpa using z
        refine .inr ?_
        show numOf w = 1
        rw [z]; unfold numOf; rw [read_nat (n := 1) (by rw [dg_small (by decide)]; decide +kernel) (by decide)]; rfl
  · show (fsOf ws).length = _
    unfold fsOf
    rw [List.length_map, List.length_drop, hl]
  · have hf : f ∈ fsOf ws := hf
    unfold fsOf at hf
    obtain ⟨w, hw, rfl⟩ := List.mem_map.mp hf
    have hc := List.all_eq_true.mp h3 w hw
    obtain ⟨g, hg, _⟩ := coord_frac hc
    rw [hg]
    exact coord_low hc hg
abbrev spoilA : List Str := ["", "-", "+1", "01", "00", "-0", "x", "1.0", "1_0", "12345", "1/1", "2/4", "0/2", "1/10", "1/0", "3/", "/3"]
abbrev spoilB : List Str := ["-/2", "1/2/3", "--1", "1/-2", "-01", "1/02", "2", "9999", "-9999", "1001", "999/2", "-500/3", "4/9"]
structure SpWd (w : Str) : Prop where
  len : w.length <= 6
  sp : 32 ∉ cs w
  nl : 10 ∉ cs w
theorem spoil_ok : ∀ w ∈ spoilA ++ spoilB, SpWd w := fun w hw => by
  have h : ∀ w ∈ spoilA ++ spoilB, w.length <= 6 /\ 32 ∉ cs w /\ 10 ∉ cs w := by decide +kernel
  exact ⟨(h w hw).1, (h w hw).2.1, (h w hw).2.2⟩
def spSpW : Sp := fun vs H Q _ => ∃ n : Int, vs = [.int n] /\ ∀ w H', Same H H' -> SpWd w -> Q (.str w) H'
def splW (xs : List Str) : List (List Str) := xs.map fun l => Txt.split l ⟨#[32]⟩
structure LinesOk (xs : List Str) : Prop where
  ne : xs ≠ []
  many : xs.length <= 1000
  len : ∀ x ∈ xs, x.length <= 599
def LX (F : Addr) (H : Hp) (p : Addr) (l : Ln) : Prop := ∃ (c : Addr) (ps : List Addr), c ≠ F /\ H p = some (.tup [.int l.1, .ref c]) /\ H c = some (.lst (ps.map V.ref)) /\ Paired (fun b (f : Int × Int) => H b = some (.tup [.int f.1, .int f.2])) ps l.2
theorem LX.same {F : Addr} {H H' : Hp} {p : Addr} {l : Ln} (h : LX F H p l) (s : Same H H') : LX F H' p l := by
  obtain ⟨c, ps, h1, h2, h3, h4⟩ := h
  exact ⟨c, ps, h1, s _ _ h2, s _ _ h3, Paired.mapP h4 fun _ _ q => s _ _ q⟩
theorem LX.off {F : Addr} {H : Hp} {p : Addr} {l : Ln} {xs : List V} {o : HO} (h : LX F H p l) (hq : H F = some (.lst xs)) : LX F (upd H F o) p l := by
  obtain ⟨c, ps, h1, h2, h3, h4⟩ := h
  exact ⟨c, ps, h1, by rw [upd_ne (fun z => by rw [z, hq] at h2; cases h2)]; exact h2, by rw [upd_ne h1]; exact h3, Paired.mapP h4 fun _ _ q => by rw [upd_ne (fun z => by rw [z, hq] at q; cases q)]; exact q⟩
theorem LX.at_ {K : PySem.W.Frag} {F : Addr} {H : Hp} {p : Addr} {l : Ln} (h : LX F H p l) : LAt K H p l := by
  obtain ⟨c, ps, _, h2, h3, h4⟩ := h
  exact ⟨c, SqT.of h2, ps, SqL.of h3, Paired.mapP h4 fun _ _ q => SqT.of q⟩
theorem rowsL_ln (wss : List (List Str)) : rowsL (wss.map lnOf) = rowsOf wss /\ (wss.map lnOf).map (·.2) = fssOf wss := by
  have e : (wss.map lnOf).map (·.2) = fssOf wss := by rw [List.map_map]; rfl
  refine ⟨?_, e⟩
  unfold rowsL rowsOf
  rw [e, List.map_map]; rfl
theorem gd_ln {wss : List (List Str)} (h : ∀ i, i < wss.length -> okL wss i = true) : GdL (wss.map lnOf) := by
  have h30 : wss.length <= 30 := by
    by_cases z : wss.length <= 30
    · exact z
    · have := h 30 (by omega)
      unfold okL at this
      rw [Bool.and_eq_true] at this
      exact absurd (of_decide_eq_true this.1) (by decide)
  refine ⟨by rw [List.length_map]; exact h30, ?_⟩
  have hi : ∀ i ws, wss[i]? = some ws -> isLineB ws = true /\ ws.length = (wss.getD 0 []).length := fun i ws e => by
    have := h i (List.getElem?_eq_some_iff.mp e).1
    unfold okL at this
    rw [List.getD_eq_getElem?_getD, e, Bool.and_eq_true, Bool.and_eq_true] at this
    exact ⟨this.2.1, of_decide_eq_true this.2.2⟩
  cases wss with
  | nil => exact ⟨1, by decide, by decide, fun l hl => by cases hl⟩
  | cons w0 r =>
    obtain ⟨a1, a2⟩ := hi 0 w0 rfl
    obtain ⟨_, g1, g2⟩ := good_line a1 a2
    refine ⟨_, g1, g2, fun l hl => ?_⟩
    obtain ⟨ws, hws, rfl⟩ := List.mem_map.mp hl
    obtain ⟨i, e⟩ := List.getElem?_of_mem hws
    obtain ⟨b1, b2⟩ := hi i ws e
    exact (good_line b1 b2).1
section
variable (K : PySem.W.Frag)
def spReadW : Sp := fun vs H Q _ => ∃ (a : Addr) (xs : List Str), vs = [.ref a] /\ SqL K H a (xs.map V.str) /\ LinesOk xs /\
  ((∀ i, i < (splW xs).length -> okL (splW xs) i = true) -> overB (rowsOf (splW xs)) = false -> ∀ r F as H', Same H H' -> H' r = some (.lst [.non, .ref F]) -> H' F = some (.lst (as.map V.ref)) -> LnsAt K H' as ((splW xs).map lnOf) -> Q (.ref r) H') /\
  (∀ i r e H', Same H H' -> i < (splW xs).length -> (∀ j, j < i -> okL (splW xs) j = true) -> okL (splW xs) i = false -> H' r = some (.lst [.int (i : Nat), .ref e]) -> Q (.ref r) H') /\
  (∀ r e H', Same H H' -> (∀ i, i < (splW xs).length -> okL (splW xs) i = true) -> overB (rowsOf (splW xs)) = true -> H' r = some (.lst [.int 0, .ref e]) -> Q (.ref r) H')
end
structure SpL (k : Nat) (xs : List Str) : Prop where
  ne : xs ≠ []
  few : xs.length <= 31 + k
  len : ∀ x ∈ xs, x.length <= 105 + 20 * k
  nl : ∀ x ∈ xs, 10 ∉ cs x
def wtS (l : List Str) : Nat := (l.map (·.length)).sum + l.length
theorem jn_wt (c : Nat) : ∀ l : List (List Nat), (jn c l).length <= (l.map (·.length)).sum + l.length
  | [] => by simp [jn]
  | [w] => by simp [jn]
  | w :: v :: r => by
    show (w ++ c :: jn c (v :: r)).length <= _
    have := jn_wt c (v :: r)
    rw [List.length_append, List.length_cons, List.map_cons, List.sum_cons, List.length_cons]
    omega
theorem join_wt (c : Nat) (l : List Str) : (Str.join ⟨#[c]⟩ l).length <= wtS l := by
  have h := jn_wt c (l.map cs)
  rw [<- cs_join, cs_length, List.map_map, List.length_map] at h
  have e : l.map ((fun x => x.length) ∘ cs) = l.map (·.length) := List.map_congr_left fun w _ => cs_length w
  rw [e] at h
  exact h
theorem wtS_app (a b : List Str) : wtS (a ++ b) = wtS a + wtS b := by
  unfold wtS
  rw [List.map_append, List.sum_append, List.length_append]; omega
theorem wtS_set (w : Str) : ∀ (l : List Str) (j : Nat), wtS (l.set j w) <= wtS l + w.length
  | [], _ => by simp [wtS]
  | x :: l, 0 => by simp [wtS]; omega
  | x :: l, j + 1 => by
    have := wtS_set w l j
    simp only [wtS, List.set_cons_succ, List.map_cons, List.sum_cons, List.length_cons] at this ⊢
    omega
theorem wtS_cut (l : List Str) (j : Nat) : wtS (l.take j) + wtS (l.drop j) = wtS l := by rw [<- wtS_app, List.take_append_drop]
theorem wtS_mem : ∀ {l : List Str} {w : Str}, w ∈ l -> w.length + l.length <= wtS l
  | [], _, h => by cases h
  | v :: l, w, h => by
    have h1 : wtS (v :: l) = v.length + 1 + wtS l := by simp only [wtS, List.map_cons, List.sum_cons, List.length_cons]; omega
    rw [h1, List.length_cons]
    rcases List.mem_cons.mp h with rfl | h
    · have : l.length <= wtS l := by unfold wtS; omega
      omega
    · have := wtS_mem h
      omega
theorem wtS_len (l : List Str) : l.length <= wtS l := by unfold wtS; omega
theorem wtS_split (x : Str) : wtS (Txt.split x ⟨#[32]⟩) <= x.length + 1 := PyProof.Rows.split_weight x ⟨#[32]⟩ (by decide)
theorem jn_mem {c z : Nat} : ∀ {l : List (List Nat)} {w : List Nat}, w ∈ l -> z ∈ w -> z ∈ jn c l
  | [], _, h, _ => by cases h
  | [v], w, h, hz => by
    have : w = v := by simpa using h
    rw [this] at hz; exact hz
  | v :: u :: r, w, h, hz => by
    show z ∈ v ++ c :: jn c (u :: r)
    rcases List.mem_cons.mp h with e | h
    · rw [e] at hz; exact List.mem_append_left _ hz
    · exact List.mem_append_right _ (List.mem_cons_of_mem _ (jn_mem h hz))
theorem split_nl {x : Str} {c : Nat} (h : 10 ∉ cs x) : ∀ w ∈ Txt.split x ⟨#[c]⟩, 10 ∉ cs w := fun w hw z => by
  refine h ?_
  rw [<- StrLaws.join_split x ⟨#[c]⟩, cs_join]
  exact jn_mem (List.mem_map.mpr ⟨w, hw, rfl⟩) z
theorem join_nl {l : List Str} (h : ∀ w ∈ l, 10 ∉ cs w) : 10 ∉ cs (Str.join ⟨#[32]⟩ l) := by
  rw [cs_join]
  exact jn_free (by decide) fun w hw => by
    obtain ⟨v, hv, rfl⟩ := List.mem_map.mp hw
    exact h v hv
theorem joinOk (c : Nat) (l : List Str) (h : wtS l <= 1000) : JoinOk ⟨#[c]⟩ l = true := by
  unfold JoinOk
  have h1 := wtS_len l
  rw [StrLaws.joinFits (B := 1000) (fun w hw => by have := wtS_mem hw; omega) (by
    have h3 := Nat.mul_le_mul_right 1000 (Nat.le_trans h1 h)
    have h4 : l.length * (⟨#[c]⟩ : Str).length = l.length * 1 := rfl
    rw [h4]; omega)]
  rfl
theorem cut_to {α : Type} (xs : List α) (k : Nat) (h : k <= xs.length) : cutL xs none (some (k : Int)) = xs.take k := by
  unfold cutL
  rw [HT.sIx_nat, HT.sIx_none, List.drop_zero, Nat.sub_zero]
  rw [show min k xs.length = k by omega]
theorem cut_from {α : Type} (xs : List α) (k : Nat) (h : k <= xs.length) : cutL xs (some (k : Int)) none = xs.drop k := by
  unfold cutL
  rw [HT.sIx_nat, HT.sIx_none, show min k xs.length = k by omega]
  rw [List.take_of_length_le (by rw [List.length_drop]; exact Nat.le_refl _)]
theorem SpL.lines {k : Nat} {xs : List Str} (h : SpL k xs) (hk : k <= 5) : LinesOk xs := ⟨h.ne, by have := h.few; omega, fun x hx => by have := h.len x hx; omega⟩
def litW (w : Str) : Prop := w.length <= 4 /\ 10 ∉ cs w
theorem lit_at {a b c : Str} (ha : litW a) (hb : litW b) (hc : litW c) (z : Int) : ∃ w, atI [V.str a, .str b, .str c] (z % 3) = some (.str w) /\ litW w := by
  have q : 0 <= z % 3 /\ z % 3 < 3 := ⟨Int.emod_nonneg _ (by decide), Int.emod_lt_of_pos _ (by decide)⟩
  have : z % 3 = 0 \/ z % 3 = 1 \/ z % 3 = 2 := by omega
  rcases this with e | e | e
  · exact ⟨a, by rw [e]; rfl, ha⟩
  · exact ⟨b, by rw [e]; rfl, hb⟩
  · exact ⟨c, by rw [e]; rfl, hc⟩
theorem lit1 : litW "" /\ litW "1" /\ litW "0" /\ litW "0 1 " := ⟨⟨by decide, by decide⟩, ⟨by decide, by decide⟩, ⟨by decide, by decide⟩, ⟨by decide, by decide⟩⟩
def spSpoil (K : PySem.W.Frag) : Sp := fun vs H Q _ => ∃ (a : Addr) (n : Int) (k : Nat) (xs : List Str), vs = [.ref a, .int n] /\ H a = some (.lst (xs.map V.str)) /\ SpL k xs /\ k <= 4 /\ ∀ r ys H', Same H H' -> H' r = some (.lst (ys.map V.str)) -> SpL (k + 1) ys -> Q (.ref r) H'
def mixT (c k : Int) : Int := ((c % 10 ^ 20 * 48271 + k * k * 40692 + 11) % 2147483647 * 69621 + k * 16807 + 5) % 2147483629
def drawnT (c b : Int) (n : Nat) : List Int := if 0 < leftF c b n then digF c b n else (List.range n).map fun j => mixT c (0 + (j : Nat)) / 7 % b
def cooB (n : Int) (bs : List Int) : Int := bs.getD (n % (bs.length : Int)).toNat 0
def cooN (n : Int) (bs : List Int) (mo : Int) : Int := n / (bs.length : Int) % (2 * mo + 1) - mo
def cooT (n : Int) (bs : List Int) (mo : Int) : Int × Int := (cooN n bs mo / (Int.gcd (cooN n bs mo) (cooB n bs) : Int), cooB n bs / (Int.gcd (cooN n bs mo) (cooB n bs) : Int))
def lineT (c : Int) (wd : Nat) (bs : List Int) (mo : Int) : Ln := ((drawnT c (2 * (bs.length : Int) * (2 * mo + 1)) (wd + 1)).getD 0 0 % 2, ((drawnT c (2 * (bs.length : Int) * (2 * mo + 1)) (wd + 1)).drop 1).map fun n => cooT n bs mo)
def kindT (z : Int) : List Int × Int := [([1], 1000), ([1], 5), ([1, 1, 2, 3], 100), ([1, 5, 9], 22), ([7, 8, 1], 17), ([1, 4, 6], 83)].getD z.toNat ([1], 1)
def linesT (ns : List Int) (k : Nat) : List Ln :=
  (cellF ns ((k : Int) + 1).toNat :: cutL ns (some ((k : Int) + 2)) (some ((k : Int) + 31))).map fun c => lineT c (1 + mixT (cellF ns k) 50 % 4).toNat (kindT (mixT (cellF ns k) 50 / 4 % 6)).1 (kindT (mixT (cellF ns k) 50 / 4 % 6)).2
def spMixD : Sp := fun vs H Q _ => ∃ c k : Int, vs = [.int c, .int k] /\ 0 <= k /\ k < 1048576 /\ Q (.int (mixT c k)) H
section
variable (K : PySem.W.Frag)
def spDrawnD : Sp := fun vs H Q _ => ∃ (c b : Int) (n : Nat), vs = [.int c, .int b, .int n] /\ 0 < b /\ b < 1000000 /\ n <= 100 /\ ∀ r H' (ds : List Int), Same H H' -> H r = none -> H' r = some (.lst (ds.map V.int)) -> ds.length = n -> (∀ d ∈ ds, 0 <= d /\ d < b) -> ds = drawnT c b n -> Q (.ref r) H'
def spCooD : Sp := fun vs H Q _ => ∃ (n mo L : Int) (a : Addr) (bs : List Int), vs = [.int n, .ref a, .int mo] /\ 0 <= n /\ n <= 1000000 /\ SqL K H a (bs.map V.int) /\ KindOk bs mo L /\ ∀ p f, H p = none -> FrK mo L f -> f = cooT n bs mo -> Q (.ref p) (upd H p (.tup [.int f.1, .int f.2]))
def spLineD : Sp := fun vs H Q _ => ∃ (c mo L : Int) (wd : Nat) (a : Addr) (bs : List Int), vs = [.int c, .int wd, .ref a, .int mo] /\ SqL K H a (bs.map V.int) /\ KindOk bs mo L /\ 1 <= wd /\ wd <= 4 /\ ∀ p l H', Same H H' -> LNew H H' p l -> LnK wd mo L l -> l = lineT c wd bs mo -> Q (.ref p) H'
def spLinesD : Sp := fun vs H Q _ => ∃ (a : Addr) (ns : List Int) (k : Nat), vs = [.ref a, .int k] /\ k <= 10 /\ SqL K H a (ns.map V.int) /\ ns.length <= 63 /\ ∀ r as ls H', Same H H' -> H r = none -> H' r = some (.lst (as.map V.ref)) -> LnsAt K H' as ls -> LsOk ls -> ls = linesT ns k -> Q (.ref r) H'
end
structure RefT (t : Str) (i : Nat) : Prop where
  tx : TxOk t
  why : (i < (wordsOf t).length /\ (∀ j, j < i -> okL (wordsOf t) j = true) /\ okL (wordsOf t) i = false) \/ ((∀ j, j < (wordsOf t).length -> okL (wordsOf t) j = true) /\ overB (rowsOf (wordsOf t)) = true /\ i = 0)
theorem RefT.r1 {t : Str} {i : Nat} (h : RefT t i) (h1 : ∀ j, j < (wordsOf t).length -> okL (wordsOf t) j = true) (h2 : overB (rowsOf (wordsOf t)) = false) : False := by
  rcases h.why with ⟨a, _, c⟩ | ⟨_, b, _⟩
  · rw [h1 i a] at c; cases c
  · rw [h2] at b; cases b
theorem RefT.r2 {t : Str} {i j : Nat} (h : RefT t i) (h1 : j < (wordsOf t).length) (h2 : ∀ l, l < j -> okL (wordsOf t) l = true) (h3 : okL (wordsOf t) j = false) : j = i := by
  rcases h.why with ⟨a, b, c⟩ | ⟨a, _, _⟩
  · rcases Nat.lt_trichotomy j i with z | z | z
    · rw [b j z] at h3; cases h3
    · exact z
    · rw [h2 i z] at c; cases c
  · rw [a j h1] at h3; cases h3
theorem RefT.r3 {t : Str} {i : Nat} (h : RefT t i) (h1 : ∀ j, j < (wordsOf t).length -> okL (wordsOf t) j = true) : i = 0 := by
  rcases h.why with ⟨a, _, c⟩ | ⟨_, _, b⟩
  · rw [h1 i a] at c; cases c
  · exact b
theorem ref_empty : RefT "" 0 := by
  have e : wordsOf "" = [[("" : Str)]] := by decide +kernel
  have e2 : Txt.split "" ⟨#[10]⟩ = [("" : Str)] := by decide +kernel
  refine ⟨⟨by decide, by rw [e2]; decide, ?_, ?_, ?_⟩, .inl ⟨by rw [e]; decide, fun j hj => absurd hj (by omega), by rw [e]; decide +kernel⟩⟩
  · rw [e2]; intro l hl
    have : l = "" := by simpa using hl
    rw [this]; decide
  · rw [e]; intro l hl
    have : l = [("" : Str)] := by simpa using hl
    rw [this]; decide
  · rw [e]; intro l hl w hw
    have : l = [("" : Str)] := by simpa using hl
    rw [this] at hw
    have : w = "" := by simpa using hw
    rw [this]; decide
def spDesk (nt : Addr) : Sp := fun vs H Q E => ∃ (t : Str) (i : Nat), vs = [.str t] /\ RefT t i /\ ∀ d H', Same H H' -> H' d = some (.xd [("line", .int (i : Nat))]) -> E (.ref nt) (some d) H'
theorem spDesk_mono (nt : Addr) : SpMono (spDesk nt) := fun vs H Q Q' E _ h => h
def spCaughtT (nt : Addr) : Sp := fun vs H Q _ => ∃ (t : Str) (z : Int) (i : Nat), vs = [.str t, .int z] /\ RefT t i /\ ∀ e d H', Same H H' -> H' e = some (excD nt e (some d)) -> H' d = some (.xd [("line", .int (i : Nat))]) -> Q (.ref e) H'
def spRefT : Sp := fun vs H Q _ => ∃ (t : Str) (z : Int) (i : Nat), vs = [.str t, .int z, .int (i : Nat)] /\ RefT t i /\ ∀ H', Same H H' -> Q (.bl true) H'
def spNoTx : Sp := fun vs H Q _ => vs = [] /\ ∀ H', Same H H' -> Q (.bl true) H'
theorem ps_never {X : Cx} {st : Stmt} : PS X st (fun _ _ _ => False) := fun _ _ _ _ _ _ h => h.elim
section
variable {k : Nat} {xs : List Str}
theorem SpL.mono (h : SpL k xs) : SpL (k + 1) xs := ⟨h.ne, by have := h.few; omega, fun x hx => by have := h.len x hx; omega, h.nl⟩
theorem SpL.split (h : SpL k xs) : Txt.split (Str.join ⟨#[10]⟩ xs) ⟨#[10]⟩ = xs := split_join h.ne h.nl
theorem SpL.words (h : SpL k xs) : wordsOf (Str.join ⟨#[10]⟩ xs) = splW xs := by unfold wordsOf; rw [h.split]; rfl
theorem SpL.joins (h : SpL k xs) (hk : k <= 5) : JoinOk ⟨#[10]⟩ xs = true := by
  unfold JoinOk
  have h1 := h.few
  rw [StrLaws.joinFits (B := 300) (fun w hw => by have := h.len w hw; omega) (by
    have h3 := Nat.mul_le_mul_right 300 (show xs.length <= 36 by omega)
    have h4 : xs.length * (⟨#[10]⟩ : Str).length = xs.length * 1 := rfl
    rw [h4]; omega)]
  rfl
theorem SpL.tx (h : SpL k xs) (hk : k <= 5) : TxOk (Str.join ⟨#[10]⟩ xs) := by
  have h1 := h.few
  have hj := join_len 10 xs (B := 205) (fun w hw => by have := h.len w hw; omega)
  have h2 := Nat.mul_le_mul_right 206 (show xs.length <= 36 by omega)
  refine ⟨by omega, by rw [h.split]; omega, fun l hl => ?_, fun ws hws => ?_, fun ws hws w hw => ?_⟩
  · rw [h.split] at hl
    have := h.len l hl
    omega
  · rw [h.words] at hws
    obtain ⟨x, hx, rfl⟩ := List.mem_map.mp hws
    have := h.len x hx
    have := PyProof.Rows.split_le x ⟨#[32]⟩
    show (Txt.split x ⟨#[32]⟩).length <= 1000
    omega
  · rw [h.words] at hws
    obtain ⟨x, hx, rfl⟩ := List.mem_map.mp hws
    have := h.len x hx
    have := PyProof.Rows.part_short (x := x) (y := ⟨#[32]⟩) (a := w) hw
    omega
end
theorem LsOk.spl {ls : List Ln} (h : LsOk ls) : SpL 0 (ls.map lineTxt) := by
  obtain ⟨wd, mo, L, h1, h4, _, _, _, _, hl⟩ := h.ex
  have hf := h.few
  refine ⟨fun z => h.ne (List.map_eq_nil_iff.mp z), by rw [List.length_map]; omega, fun x hx => ?_, fun x hx => ?_⟩
  · obtain ⟨l, hlm, rfl⟩ := List.mem_map.mp hx
    have := line_len (hl l hlm) h4
    omega
  · obtain ⟨l, hlm, rfl⟩ := List.mem_map.mp hx
    exact join_nl (line_free (hl l hlm).good (by decide))
end Mw
namespace Mw
open PySem L2
section
variable {P : Program} {w : World} {K : PySem.W.Frag} {mg : Str -> Option Value} {base : Heap} {f : Addr} {fd : FuncData} {nt bt C_Hand C_PlainHand C_Desk X_MendError X_NoFraction X_NoPoint X_NoSide X_NoRow X_NoTable X_NoText X_NotParted X_OneSide X_TooMany X_WrongBook : Addr}
theorem sc_shared_factor : FnScope ["one", "other", "larger", "smaller", "rest"] ["one", "other"] (defScope (top 14)) := ⟨rfl, rfl, rfl, by decide +kernel, rfl, by decide +kernel, by decide +kernel⟩
theorem ok_shared_factor (F : Fun K "shared_factor" "shared_factor" (top 14) f fd) (T : Txt BN mg) : FnOk P w K mg base CX0 1 f fd ["one", "other"] spGcd := by
  refine F.ok sc_shared_factor (fun vs H Q E h => ?_) (fun cdv A outer s H vs Q E hr h => ?_)
  · obtain ⟨a, b, rfl, _⟩ := h
    rfl
  obtain ⟨a, b, rfl, q⟩ := h
  refine ⟨_, (pss_cons (ps_set (i := 2) sc_shared_factor.nd rfl (Or.inl rfl) (pe_callB call_abs rfl (T.nb "abs" (by decide)) (by decide +kernel) (pa_cons (pv 0) pa_nil)))
      (pss_cons (ps_set (i := 3) sc_shared_factor.nd rfl (Or.inl rfl) (pe_callB call_abs rfl (T.nb "abs" (by decide)) (by decide +kernel) (pa_cons (pv 1) pa_nil)))
      (pss_cons (ps_while PassesOwn.never (pt_cmpR op_ne (pv 3) pe_int (nomark _)) (pss_cons (ps_set (i := 4) sc_shared_factor.nd rfl (Or.inl rfl) (pe_op op_mod (pv 2) (pv 3)))
      (pss_cons (ps_set (i := 2) sc_shared_factor.nd rfl (Or.inl rfl) (pv 3))
      (pss_one (ps_set (i := 3) sc_shared_factor.nd rfl (Or.inl rfl) (pv 4))))))
      (pss_one (ps_ret (pv 2)))))), ?_⟩
  refine ⟨_, rfl, a, rfl, _, rfl, b, rfl, ?_⟩
  rw [iabs, iabs]
  refine while_by (fun σ H' => ∃ (x y : Int) (r : Option V), σ = [some (.int a), some (.int b), some (.int x), some (.int y), r] /\ H' = H /\ 0 <= x /\ 0 <= y /\ Int.gcd x y = Int.gcd a b)
    (fun σ _ => match σ with | [_, _, _, some (.int y), _] => y.natAbs | _ => 0) ⟨_, _, none, rfl, rfl, Int.natCast_nonneg _, Int.natCast_nonneg _, gcd_abs a b⟩ ?_ (fun σ H Q Q' m ⟨v, e, h1, k, ek, q⟩ => ⟨v, e, h1, k, ek, m _ _ q⟩)
  rintro σ H2 ⟨x, y, r, rfl, rfl, hx, hy, hg⟩
  refine ⟨_, rfl, rfl, _, rfl, ?_⟩
  by_cases hy0 : y = 0
  · refine iteNS (by rw [hy0]) ?_
    refine ⟨_, rfl, ?_⟩
    have e : x = (Int.gcd a b : Int) := by rw [<- hg, hy0]; exact (gcd_end hx).symm
    show Q (.int x) H2
    rw [e]
    exact q
  · refine iteN (fun z => hy0 (by injection z)) ?_
    have hyp : 0 < y := by omega
    have hlt : x % y < y := Int.emod_lt_of_pos x hyp
    have hge : 0 <= x % y := Int.emod_nonneg x hy0
    refine ⟨_, rfl, _, rfl, x, y, rfl, rfl, hyp, _, rfl, _, rfl, ⟨y, x % y, _, rfl, rfl, hy, hge, ?_⟩, ?_⟩
    · rw [<- hg]; exact gcd_turn hx hy
    · show (x % y).natAbs < y.natAbs
      omega
end
end Mw
namespace Mw
open PySem L2
section
variable {P : Program} {w : World} {K : PySem.W.Frag} {mg : Str -> Option Value} {base : Heap} {f : Addr} {fd : FuncData} {nt bt C_Hand C_PlainHand C_Desk X_MendError X_NoFraction X_NoPoint X_NoSide X_NoRow X_NoTable X_NoText X_NotParted X_OneSide X_TooMany X_WrongBook : Addr}
theorem sc_least_multiple : FnScope ["numbers", "multiple", "number"] ["numbers"] (defScope (top 16)) := ⟨rfl, rfl, rfl, by decide +kernel, rfl, by decide +kernel, by decide +kernel⟩
theorem ok_least_multiple (F : Fun K "least_multiple" "least_multiple" (top 16) f fd) (T : Txt BN mg) (c_shared_factor : Cal P w K mg base 1 "shared_factor" ["one", "other"] spGcd) : FnOk P w K mg base CX0 2 f fd ["numbers"] (spLcm9 K) := by
  refine F.ok sc_least_multiple (fun vs H Q E h => ?_) (fun cdv A outer s H vs Q E hr h => ?_)
  · obtain ⟨a, bs, rfl, _⟩ := h
    rfl
  obtain ⟨a, bs, rfl, hS, hb, q⟩ := h
  refine ⟨_, (pss_cons (ps_set (i := 1) sc_least_multiple.nd rfl (Or.inl rfl) pe_int)
      (pss_cons (ps_for PassesOwn.never rfl (pi_list (pv 0)) (pg_name (i := 2) sc_least_multiple.nd rfl (Or.inl rfl)) (pss_one (ps_set (i := 1) sc_least_multiple.nd rfl (Or.inl rfl) (pe_op op_mulB (pv 1) (pe_op op_fdivP (pv 2) (pe_cal c_shared_factor (hr.mono (by decide)) rfl (pa_cons (pv 1) (pa_cons (pv 2) pa_nil))))))))
      (pss_one (ps_ret (pv 1))))), ?_⟩
  refine ⟨_, rfl, a, rfl, ⟨_, hS⟩, for_list (xs := bs.map V.int) (fun i σ H' => ∃ v, σ = [some (.ref a), some (.int (lcmF (bs.take i))), v] /\ H' = H) ⟨none, rfl, rfl⟩ ?_ ?_ ?_⟩
  · rintro i σ H' _ ⟨v, rfl, rfl⟩; exact hS
  · rintro i x σ H' hi ⟨v, rfl, rfl⟩
    obtain ⟨n, hn, rfl⟩ := of_map hi
    have hm : n ∈ bs := List.mem_of_getElem? hn
    have ht : OkB (bs.take i) := fun b hm => hb b (List.mem_of_mem_take hm)
    have hp := (lcm9 ht).1
    have hle := lcm9_le ht
    have hn5 := hb n hm
    have gp : 0 < (Int.gcd (lcmF (bs.take i)) n : Int) := by have := Int.gcd_pos_of_ne_zero_right (lcmF (bs.take i)) (show n ≠ 0 by omega); omega
    have gl : Int.gcd (lcmF (bs.take i)) n <= n.natAbs := gcd_le_right (by omega)
    have h3 : (n / (Int.gcd (lcmF (bs.take i)) n : Int)).natAbs <= n.natAbs := Int.natAbs_ediv_le_natAbs _ _
    refine ⟨_, rfl, _, rfl, _, rfl, _, rfl, _, _, rfl, _, _, rfl, rfl, div64 gp (by omega), _, _, rfl, rfl, mul64 (by omega) (by omega) (by omega) (by omega), some (.int n), ?_, rfl⟩
    rw [take_snoc hn, lcmF_snoc]; rfl
  · rintro σ H' ⟨v, rfl, rfl⟩
    rw [List.length_map, List.take_length]
    exact ⟨_, rfl, q⟩
end
end Mw
namespace Mw
open PySem L2
section
variable {P : Program} {w : World} {K : PySem.W.Frag} {mg : Str -> Option Value} {base : Heap} {f : Addr} {fd : FuncData} {nt bt C_Hand C_PlainHand C_Desk X_MendError X_NoFraction X_NoPoint X_NoSide X_NoRow X_NoTable X_NoText X_NotParted X_OneSide X_TooMany X_WrongBook : Addr}
theorem sc_is_number : FnScope ["word"] ["word"] (defScope (top 24)) := ⟨rfl, rfl, rfl, by decide +kernel, rfl, by decide +kernel, by decide +kernel⟩
theorem ok_is_number (F : Fun K "is_number" "is_number" (top 24) f fd) (T : Txt BN mg) (GC : Consts K mg bt) : FnOk P w K mg base CX0 1 f fd ["word"] spIsNum := by
  refine F.ok sc_is_number (fun vs H Q E h => ?_) (fun cdv A outer s H vs Q E hr h => ?_)
  · obtain ⟨w, rfl, _⟩ := h
    rfl
  obtain ⟨w, rfl, hl, q⟩ := h
  refine ⟨_, (pss_cons (ps_if (pt_not (pt_chain op_le op_le pe_int (pe_callB call_len_str rfl (T.nb "len" (by decide)) (by decide +kernel) (pa_cons (pv 0) pa_nil)) (pe_gc GC.MOST_FIGURES rfl))) (pss_one (ps_ret pe_bl)) pss_nil)
      (pss_cons (ps_join (ps_if (PW.pt (pw_and (pt_cmpR op_eq (pe_ix ix_str (pv 0) pe_int (fun _ _ => rfl)) pe_str (nomark _)) (pw_and1 (pt_cmpR op_ne (pv 0) pe_str (nomark _))))) (pss_one (ps_ret pe_bl)) pss_nil))
      (pss_one (ps_ret (pe_callB (call_allB rfl) rfl (T.nb "all" (by decide)) (by decide +kernel) (pa_cons (pe_comp (sc := defScope (top 24)) (N := ["word"]) (NB := ["sign"]) (fr := [none]) rfl (by decide +kernel) (pi_str (pv 0)) (fun _ _ _ _ => (pg_name (i := 0) (show (["sign"] : List Str).Nodup by decide +kernel) rfl (Or.inl rfl))) (fun _ _ _ _ => .nil) (fun _ _ _ _ => (pe_cmpR op_in_str (pv 0) (pe_gc GC.FIGURES rfl) (by with_unfolding_all rfl)))) pa_nil)))))), ?_⟩
  have hz := len1000 hl
  have no : ∀ b, isNumB w = b -> Q (.bl b) H := fun b e => by rw [<- e]; exact q H (Same.refl _)
  refine ⟨_, rfl, w, rfl, hz, _, _, rfl, rfl, _, rfl, ?_⟩
  refine iteD (fun z1 => ?_) (fun z1 => ?_)
  rotate_left
  · exact ⟨_, rfl, iteT (no false (by unfold isNumB; rw [decide_eq_false (fun y => z1 (by show (1 : Int) <= (w.length : Int); omega))]; rfl))⟩
  refine ⟨_, _, rfl, rfl, _, rfl, ?_⟩
  refine iteND (fun z2 => ?_) (fun z2 => ?_)
  · exact no false (by unfold isNumB; rw [decide_eq_false (fun y => z2 (by show (w.length : Int) <= 4; omega))]; rfl)
  have h1 : 1 <= w.length := by have : (1 : Int) <= (w.length : Int) := z1; omega
  have h4 : w.length <= 4 := by have : (w.length : Int) <= 4 := z2; omega
  have hcl := cs_length w
  obtain ⟨c, hc⟩ : ∃ c, (cs w)[0]? = some c := ⟨_, List.getElem?_eq_getElem (show 0 < (cs w).length by omega)⟩
  have e0 : decide (V.str ⟨#[c]⟩ = V.str "0") = decide ((cs w)[0]? = some 48) := by
    rw [hc]
    refine decide_eq_decide.mpr ⟨fun z => ?_, fun z => ?_⟩
    · injection z with z
      have : (⟨#[c]⟩ : Str).cps = ("0" : Str).cps := by rw [z]
      have h2 : ("0" : Str).cps = #[48] := by decide +kernel
      rw [h2] at this
      have : c = 48 := by simpa using this
      rw [this]
    · injection z with z
      rw [z]
      exact congrArg V.str (by decide +kernel)
  refine ⟨fun σ H' => σ = [some (.str w)] /\ H' = H /\ (decide ((cs w)[0]? = some 48) && !decide (w = "0")) = false, ?_, ?_⟩
  · refine ⟨_, rfl, w, 0, c, rfl, rfl, hz, by show atI (cs w) 0 = some c; exact atI_nat (j := 0) hc, rfl, _, rfl, ?_⟩
    rw [e0]
    refine iteD (fun y1 => ?_) (fun y1 => ?_)
    · refine ⟨_, rfl, rfl, _, rfl, ?_⟩
      refine iteND (fun y2 => ?_) (fun y2 => ?_)
      · have y3 : ¬ w = "0" := fun y => y2 (by rw [y])
        exact no false (by unfold isNumB; rw [decide_eq_true y1, decide_eq_false y3, Bool.true_and, Bool.not_false, Bool.not_true, Bool.and_false]; rfl)
      · have y3 : w = "0" := by injection y2
        exact ⟨rfl, rfl, by rw [decide_eq_true y3]; exact Bool.and_false _⟩
    · exact iteF ⟨rfl, rfl, by rw [decide_eq_false y1]; rfl⟩
  rintro σ H1 ⟨rfl, rfl, hb⟩
  refine ⟨_, rfl, w, rfl, fun D hD => ?_⟩
  refine comp_str_map (x := w) (fun c => V.bl (decide (c ∈ figs))) hz hD (fun c' H' R hc' s' k => ?_) (fun H' s' e => ?_)
  · refine ⟨wk_none (n := 1) rfl, ?_⟩
    refine ⟨_, rfl, ⟨#[c']⟩, "0123456789", rfl, rfl, ?_⟩
    rw [in_figs]
    exact k H' (Same.refl _)
  · refine ⟨D, (cs w).map (fun c => decide (c ∈ figs)), rfl, .inl (.inl (by rw [List.map_map]; exact e)), ?_⟩
    have e1 : ((cs w).map fun c => decide (c ∈ figs)).all id = isNumB w := by
      unfold isNumB
      rw [decide_eq_true ⟨h1, h4⟩, hb, List.all_map]
      rfl
    rw [e1]
    exact q H' s'
end
end Mw
namespace Mw
open PySem L2
section
variable {P : Program} {w : World} {K : PySem.W.Frag} {mg : Str -> Option Value} {base : Heap} {f : Addr} {fd : FuncData} {nt bt C_Hand C_PlainHand C_Desk X_MendError X_NoFraction X_NoPoint X_NoSide X_NoRow X_NoTable X_NoText X_NotParted X_OneSide X_TooMany X_WrongBook : Addr}
theorem sc_is_coordinate : FnScope ["word", "unsigned", "pieces"] ["word"] (defScope (top 25)) := ⟨rfl, rfl, rfl, by decide +kernel, rfl, by decide +kernel, by decide +kernel⟩
theorem ok_is_coordinate (F : Fun K "is_coordinate" "is_coordinate" (top 25) f fd) (T : Txt BN mg) (GC : Consts K mg bt) (c_is_number : Cal P w K mg base 1 "is_number" ["word"] spIsNum) (c_shared_factor : Cal P w K mg base 1 "shared_factor" ["one", "other"] spGcd) : FnOk P w K mg base CX0 2 f fd ["word"] spIsCoord := by
  refine F.ok sc_is_coordinate (fun vs H Q E h => ?_) (fun cdv A outer s H vs Q E hr h => ?_)
  · obtain ⟨w, rfl, _⟩ := h
    rfl
  obtain ⟨w, rfl, hl, q⟩ := h
  refine ⟨_, (pss_cons (ps_join (ps_set (i := 1) sc_is_coordinate.nd rfl (Or.inl rfl) (pe_ifExp (pt_val (pe_bmK (K := K) rfl PySem.F.plainAttrs_str PySem.F.slot_str_startswith PySem.F.type_str_startswith mt_starts (pv 0) (pa_cons pe_str pa_nil))) (pe_slice sl_str (pv 0) (po_some pe_int) po_none) (pv 0))))
      (pss_cons (ps_set (i := 2) sc_is_coordinate.nd rfl (Or.inl rfl) (pe_bmK (K := K) rfl PySem.F.plainAttrs_str PySem.F.slot_str_partition PySem.F.type_str_partition mt_part (pv 1) (pa_cons pe_str pa_nil)))
      (pss_cons (ps_join (ps_if (PW.pt (pw_or (pt_not (pt_val (pe_cal c_is_number (hr.mono (by decide)) rfl (pa_cons (pe_ix (ix_tupK (K := K) rfl) (pv 2) pe_int (fun _ _ => rfl)) pa_nil)))) (pw_or1 (pt_val (pe_bmK (K := K) rfl PySem.F.plainAttrs_str PySem.F.slot_str_startswith PySem.F.type_str_startswith mt_starts (pv 0) (pa_cons pe_str pa_nil)))))) (pss_one (ps_ret pe_bl)) pss_nil))
      (pss_cons (ps_if (pt_cmpR op_eq (pe_ix (ix_tupK (K := K) rfl) (pv 2) pe_int (fun _ _ => rfl)) pe_str (nomark _)) (pss_one (ps_ret pe_bl)) pss_nil)
      (pss_one (ps_ret (pe_and (pe_cmpR (op_inK (K := K) rfl) (pe_ix (ix_tupK (K := K) rfl) (pv 2) pe_int (fun _ _ => rfl)) (pe_gc GC.BOTTOMS rfl) (by with_unfolding_all rfl)) (pe_one (pe_cmpR op_eq (pe_cal c_shared_factor (hr.mono (by decide)) rfl (pa_cons (pe_callTy call_intS rfl (T.nb "int" (by decide)) (by decide +kernel) (pa_cons (pe_ix (ix_tupK (K := K) rfl) (pv 2) pe_int (fun _ _ => rfl)) pa_nil)) (pa_cons (pe_callTy call_intS rfl (T.nb "int" (by decide)) (by decide +kernel) (pa_cons (pe_ix (ix_tupK (K := K) rfl) (pv 2) pe_int (fun _ _ => rfl)) pa_nil)) pa_nil))) pe_int (nomark _)))))))))), ?_⟩
  have hz := len1000 hl
  have hu : (unsg w).length <= 1000 := Nat.le_trans (unsg_le w) hl
  refine ⟨fun σ H' => σ = [some (.str w), some (.str (unsg w)), none] /\ H' = H, ?_, ?_⟩
  · refine ⟨_, rfl, rfl, w, "-", rfl, rfl, _, rfl, ?_⟩
    refine iteB (fun e => ?_) (fun e => ?_)
    · refine ⟨_, rfl, _, rfl, w, rfl, hz, ?_, rfl⟩
      unfold unsg; rw [if_pos e]; rfl
    · refine ⟨_, rfl, ?_, rfl⟩
      unfold unsg; rw [if_neg (by rw [e]; decide)]; rfl
  rintro σ H1 ⟨rfl, eH⟩
  cases eH
  refine ⟨_, rfl, rfl, unsg w, "/", rfl, rfl, by decide +kernel, len1000 hu, fun p hp => ?_⟩
  have s1 := Same.new hp (.tup [.str (Txt.partition (unsg w) "/").1, .str (Txt.partition (unsg w) "/").2.1, .str (Txt.partition (unsg w) "/").2.2])
  have hP : upd H p (.tup [.str (Txt.partition (unsg w) "/").1, .str (Txt.partition (unsg w) "/").2.1, .str (Txt.partition (unsg w) "/").2.2]) p = some (.tup [.str (Txt.partition (unsg w) "/").1, .str (Txt.partition (unsg w) "/").2.1, .str (Txt.partition (unsg w) "/").2.2]) := upd_same
  have hp1 := part_le (unsg w) "/"
  generalize upd H p (.tup [.str (Txt.partition (unsg w) "/").1, .str (Txt.partition (unsg w) "/").2.1, .str (Txt.partition (unsg w) "/").2.2]) = H2 at *
  refine ⟨fun σ H' => σ = [some (.str w), some (.str (unsg w)), some (.ref p)] /\ Same H2 H' /\ isNumB (Txt.partition (unsg w) "/").1 = true /\ Txt.startswith w "-0" = false, ?_, ?_⟩
  · refine ⟨_, rfl, p, _, _, _, rfl, rfl, SqT.of hP, rfl, (Txt.partition (unsg w) "/").1, rfl, by omega, fun H3 s3 => ?_⟩
    refine ⟨_, rfl, ?_⟩
    cases hN : isNumB (Txt.partition (unsg w) "/").1 with
    | false =>
      have hc : isCoordB w = false := by unfold isCoordB; rw [hN]; rfl
      have := q H3 (s1.trans s3)
      rw [hc] at this
      exact iteT this
    | true =>
      refine iteF ?_
      refine ⟨_, rfl, rfl, w, "-0", rfl, rfl, _, rfl, ?_⟩
      refine iteB (fun e => ?_) (fun e => ?_)
      · have hc : isCoordB w = false := by unfold isCoordB; rw [hN, e]; rfl
        have := q H3 (s1.trans s3)
        rw [hc] at this
        exact this
      · exact ⟨rfl, s3, rfl, e⟩
  rintro σ H3 ⟨rfl, s3, hN, hS⟩
  have hP3 := s3 _ _ hP
  have s13 := s1.trans s3
  refine ⟨_, rfl, p, _, _, _, rfl, rfl, SqT.of hP3, rfl, rfl, _, rfl, ?_⟩
  refine iteD (fun e => ?_) (fun e => ?_)
  · have e1 : (Txt.partition (unsg w) "/").2.1 = "" := by injection e
    have hc : isCoordB w = true := by unfold isCoordB; rw [hN, hS, decide_eq_true e1]; rfl
    have := q H3 s13
    rw [hc] at this
    exact this
  have e1 : ¬ (Txt.partition (unsg w) "/").2.1 = "" := fun z => e (by rw [z])
  have hce : isCoordB w = (decide ((Txt.partition (unsg w) "/").2.2 ∈ botS) && decide (Int.gcd (numOf (Txt.partition (unsg w) "/").1) (numOf (Txt.partition (unsg w) "/").2.2) = 1)) := by unfold isCoordB; rw [hN, hS, decide_eq_false e1]; rfl
  refine ⟨_, rfl, p, _, _, _, rfl, rfl, SqT.of hP3, rfl, bt, _, rfl, .inr (GC.bots _), rfl, by decide +kernel, decide ((Txt.partition (unsg w) "/").2.2 ∈ botS), ?_, ?_⟩
  · show V.bl (inV _ _) = _
    rw [inV_bots]
  refine iteD (fun e2 => ?_) (fun e2 => ?_)
  rotate_left
  · have := q H3 s13
    rw [hce, decide_eq_false e2] at this
    exact this
  obtain ⟨n, hn, hn9, hn4⟩ := num_int hN
  obtain ⟨m, hm, hm2, hm9, hm4⟩ := bot_int e2
  refine ⟨_, rfl, p, _, _, _, rfl, rfl, SqT.of hP3, rfl, _, (n : Int), rfl, hn, by omega, _, rfl, p, _, _, _, rfl, rfl, SqT.of hP3, rfl, _, (m : Int), rfl, hm, by omega, n, m, rfl, rfl, ?_⟩
  have := q H3 s13
  rw [hce, decide_eq_true e2, Bool.true_and] at this
  have e3 : decide (V.int ((Int.gcd (n : Int) (m : Int) : Nat) : Int) = V.int 1) = decide (Int.gcd (numOf (Txt.partition (unsg w) "/").1) (numOf (Txt.partition (unsg w) "/").2.2) = 1) := by
    have a1 : numOf (Txt.partition (unsg w) "/").1 = n := by unfold numOf; rw [hn]; rfl
    have a2 : numOf (Txt.partition (unsg w) "/").2.2 = m := by unfold numOf; rw [hm]; rfl
    rw [a1, a2]
    exact decide_eq_decide.mpr ⟨fun z => by injection z with z; omega, fun z => by rw [z]; rfl⟩
  rw [e3]
  exact this
end
end Mw
namespace Mw
open PySem L2
section
variable {P : Program} {w : World} {K : PySem.W.Frag} {mg : Str -> Option Value} {base : Heap} {f : Addr} {fd : FuncData} {nt bt C_Hand C_PlainHand C_Desk X_MendError X_NoFraction X_NoPoint X_NoSide X_NoRow X_NoTable X_NoText X_NotParted X_OneSide X_TooMany X_WrongBook : Addr}
theorem sc_is_line : FnScope ["words", "coordinates"] ["words"] (defScope (top 26)) := ⟨rfl, rfl, rfl, by decide +kernel, rfl, by decide +kernel, by decide +kernel⟩
theorem ok_is_line (F : Fun K "is_line" "is_line" (top 26) f fd) (T : Txt BN mg) (GC : Consts K mg bt) (c_is_coordinate : Cal P w K mg base 2 "is_coordinate" ["word"] spIsCoord) : FnOk P w K mg base CX0 3 f fd ["words"] (spIsLine K) := by
  refine F.ok sc_is_line (fun vs H Q E h => ?_) (fun cdv A outer s H vs Q E hr h => ?_)
  · obtain ⟨a, ws, rfl, _⟩ := h
    rfl
  obtain ⟨a, ws, rfl, hA, hne, hl, hw, q⟩ := h
  refine ⟨_, (pss_cons (ps_set (i := 1) sc_is_line.nd rfl (Or.inl rfl) (pe_slice (sl_listK (K := K) rfl) (pv 0) (po_some pe_int) po_none))
      (pss_cons (ps_if (PW.pt (pw_or (pt_cmpR (op_notInK (K := K) rfl) (pe_ix (ix_listK (K := K) rfl) (pv 0) pe_int (fun _ _ => rfl)) (pe_tup (pa_cons pe_str (pa_cons pe_str pa_nil))) (by with_unfolding_all rfl)) (pw_or1 (pt_not (pt_chain op_le op_le pe_int (pe_callB (call_lenK (K := K) rfl) rfl (T.nb "len" (by decide)) (by decide +kernel) (pa_cons (pv 1) pa_nil)) (pe_gc GC.MOST_COORDINATES rfl)))))) (pss_one (ps_ret pe_bl)) pss_nil)
      (pss_one (ps_ret (pe_callB (call_allB rfl) rfl (T.nb "all" (by decide)) (by decide +kernel) (pa_cons (pe_comp (sc := defScope (top 26)) (N := ["words", "coordinates"]) (NB := ["word"]) (fr := [none]) rfl (by decide +kernel) (pi_list (pv 1)) (fun _ _ _ _ => (pg_name (i := 0) (show (["word"] : List Str).Nodup by decide +kernel) rfl (Or.inl rfl))) (fun _ _ _ _ => .nil) (fun _ _ _ _ => (pe_cal c_is_coordinate (hr.mono (by decide)) rfl (pa_cons (pv 0) pa_nil)))) pa_nil)))))), ?_⟩
  have hz := len1000 hl
  obtain ⟨w0, h0⟩ : ∃ w0, ws[0]? = some w0 := ⟨_, List.getElem?_eq_getElem (List.length_pos_iff.mpr hne)⟩
  refine ⟨_, rfl, _, rfl, a, _, rfl, hA, fun c hc => ?_⟩
  rw [show cutV (ws.map V.str) (some 1) none = (ws.drop 1).map V.str from cut1 ws V.str]
  have s1 := Same.new hc (.lst ((ws.drop 1).map V.str))
  have hC : upd H c (.lst ((ws.drop 1).map V.str)) c = some (.lst ((ws.drop 1).map V.str)) := upd_same
  have hA1 := s1.seq hA
  generalize upd H c (.lst ((ws.drop 1).map V.str)) = H1 at *
  have no : ∀ H', Same H1 H' -> isLineB ws = false -> Q (.bl false) H' := fun H' s e => by have := q H' (s1.trans s); rw [e] at this; exact this
  have hat : atI (ws.map V.str) 0 = some (.str w0) := atI_nat (j := 0) (by rw [List.getElem?_map, h0]; rfl)
  refine ⟨_, rfl, a, _, _, _, rfl, rfl, hA1, hat, (by show 2 <= sizeLine; decide), fun p hp => ?_⟩
  have s2 := Same.new hp (.tup [.str "0", .str "1"])
  refine ⟨p, _, rfl, .inr (SqT.of upd_same), rfl, by decide, _, rfl, ?_⟩
  have e01 : (!inV (.str w0) [.str "0", .str "1"]) = !decide (ws[0]? = some ("0" : Str) \/ ws[0]? = some ("1" : Str)) := by
    rw [h0]
    refine congrArg not ?_
    show inV (.str w0) ((["0", "1"] : List Str).map V.str) = _
    rw [inV_strs]
    refine decide_eq_decide.mpr ⟨fun m => ?_, fun m => ?_⟩
    · simp only [List.mem_cons, List.not_mem_nil, or_false] at m
      rcases m with m | m <;> rw [m]
      · exact .inl rfl
      · exact .inr rfl
    · rcases m with m | m <;> injection m with m <;> rw [m] <;> simp
  rw [show (if true then !inV (V.str w0) [V.str "0", V.str "1"] else inV (V.str w0) [V.str "0", V.str "1"]) = _ from e01]
  refine iteND (fun z => ?_) (fun z => ?_)
  · exact no _ s2 (by unfold isLineB; rw [decide_eq_false z]; rfl)
  have hC2 := s2 _ _ hC
  generalize upd H1 p (.tup [.str "0", .str "1"]) = H2 at *
  refine ⟨_, rfl, c, _, rfl, .inl (SqL.of hC2), _, _, rfl, rfl, _, rfl, ?_⟩
  have hlm : (((ws.drop 1).map V.str).length : Int) = ((ws.drop 1).length : Int) := by rw [List.length_map]
  refine iteD (fun z1 => ?_) (fun z1 => ?_)
  rotate_left
  · exact ⟨_, rfl, iteT (no _ s2 (by unfold isLineB; rw [decide_eq_true z, decide_eq_false (fun y => z1 (by show (1 : Int) <= _; rw [hlm]; omega))]; rfl))⟩
  refine ⟨_, _, rfl, rfl, _, rfl, ?_⟩
  refine iteND (fun z2 => ?_) (fun z2 => ?_)
  · exact no _ s2 (by unfold isLineB; rw [decide_eq_true z, decide_eq_false (fun y => z2 (by show _ <= (4 : Int); rw [hlm]; omega))]; rfl)
  have z3 : 1 <= (ws.drop 1).length /\ (ws.drop 1).length <= 4 := by
    have y1 : (1 : Int) <= (((ws.drop 1).map V.str).length : Int) := z1
    have y2 : (((ws.drop 1).map V.str).length : Int) <= 4 := z2
    omega
  refine ⟨_, rfl, c, rfl, ⟨_, SqL.of hC2⟩, fun D hD => ?_⟩
  refine comp_list_map (xs := (ws.drop 1).map V.str) (fun v => match v with | .str w => .bl (isCoordB w) | _ => .non) (SqL.of hC2) (by rw [List.length_map]; exact len1000 (by omega)) hD (fun i x H' R hx s' k => ?_) (fun H' s' e => ?_)
  · obtain ⟨w, hw', rfl⟩ := of_map hx
    refine ⟨wk_none (n := 1) rfl, ?_⟩
    exact ⟨_, rfl, w, rfl, hw w (List.mem_of_mem_drop (List.mem_of_getElem? hw')), fun H3 s3 => k H3 s3⟩
  · refine ⟨D, (ws.drop 1).map isCoordB, rfl, .inl (.inl ?_), ?_⟩
    · rw [e, List.map_map, List.map_map]; rfl
    have e1 : ((ws.drop 1).map isCoordB).all id = isLineB ws := by
      unfold isLineB
      rw [decide_eq_true z, decide_eq_true z3, List.all_map]
      rfl
    rw [e1]
    exact q H' (s1.trans (s2.trans s'))
end
end Mw
namespace Mw
open PySem L2
section
variable {P : Program} {w : World} {K : PySem.W.Frag} {mg : Str -> Option Value} {base : Heap} {f : Addr} {fd : FuncData} {nt bt C_Hand C_PlainHand C_Desk X_MendError X_NoFraction X_NoPoint X_NoSide X_NoRow X_NoTable X_NoText X_NotParted X_OneSide X_TooMany X_WrongBook : Addr}
theorem sc_look_at_lines : FnScope ["lines", "number", "words"] ["lines"] (defScope (top 27)) := ⟨rfl, rfl, rfl, by decide +kernel, rfl, by decide +kernel, by decide +kernel⟩
theorem ok_look_at_lines (F : Fun K "look_at_lines" "look_at_lines" (top 27) f fd) (T : Txt BN mg) (GC : Consts K mg bt) (c_is_line : Cal P w K mg base 3 "is_line" ["words"] (spIsLine K)) (gm_notext : XCal P w K mg base 2 "NoText" nt "line") : FnOk P w K mg base (CXE P w) 4 f fd ["lines"] (spLines K nt) := by
  refine F.okX sc_look_at_lines (fun vs H Q E h => ?_) (fun cdv A outer s H vs Q E hr h => ?_)
  · obtain ⟨a, as, wss, rfl, _⟩ := h
    rfl
  obtain ⟨a, as, wss, rfl, hL, q, hE⟩ := h
  refine ⟨_, (pss_one (ps_for PassesOwn.leaving rfl (pi_enum rfl (T.nb "enumerate" (by decide)) (pa_cons (pv 0) pa_nil)) (pg_tupK (K := K) (n := 2) rfl rfl (pgs_cons (pg_name (i := 1) sc_look_at_lines.nd rfl (Or.inl rfl)) (pgs_cons (pg_name (i := 2) sc_look_at_lines.nd rfl (Or.inl rfl)) pgs_nil))) (pss_one (ps_if (PW.pt (pw_or (pt_cmpR op_ge (pv 1) (pe_gc GC.MOST_LINES rfl) (nomark _)) (pw_or (pt_not (pt_val (pe_cal c_is_line (hr.mono (by decide)) rfl (pa_cons (pv 2) pa_nil)))) (pw_or1 (pt_cmpR op_ne (pe_callB (call_lenK (K := K) rfl) rfl (T.nb "len" (by decide)) (by decide +kernel) (pa_cons (pv 2) pa_nil)) (pe_callB (call_lenK (K := K) rfl) rfl (T.nb "len" (by decide)) (by decide +kernel) (pa_cons (pe_ix (ix_listK (K := K) rfl) (pv 0) pe_int (fun _ _ => rfl)) pa_nil)) (nomark _)))))) (pss_one (ps_raiseI rfl gm_notext (hr.mono (by decide)) rfl raiseD_out (pa_cons (pv 1) pa_nil))) pss_nil)))), ?_⟩
  have hal : as.length = wss.length := Paired.length hL.at_
  refine ⟨_, rfl, a, rfl, ⟨_, hL.lst⟩, ?_⟩
  refine for_enum (xs := as.map V.ref) (fun i σ H' => ∃ (v1 v2 : Option V), σ = [some (.ref a), v1, v2] /\ Same H H' /\ ∀ j, j < i -> okL wss j = true)
    ⟨none, none, rfl, Same.refl _, fun j hj => absurd hj (by omega)⟩ (fun i σ H' _ ⟨_, _, _, s, _⟩ => s.seq hL.lst) ?_ ?_
  · rintro i x T0 σ H' hx hT0 ⟨v1, v2, rfl, s, hok⟩
    obtain ⟨wa, hwa, rfl⟩ := of_map hx
    have hia : i < as.length := (List.getElem?_eq_some_iff.mp hwa).1
    have sT := Same.new hT0 (.tup [.int (i : Nat), .ref wa])
    have hTT : upd H' T0 (.tup [.int (i : Nat), .ref wa]) T0 = some (.tup [.int (i : Nat), .ref wa]) := upd_same
    have sH := s.trans sT
    generalize upd H' T0 (.tup [.int (i : Nat), .ref wa]) = HT at *
    obtain ⟨ws, hws, hq⟩ := paired_get hL.at_ hwa
    have hwm := List.mem_of_getElem? hws
    have hgd : wss.getD i [] = ws := by rw [List.getD_eq_getElem?_getD, hws]; rfl
    have stop : okL wss i = false -> ∀ H2, Same H H2 -> ∀ d, H2 d = none -> E (.ref nt) (some d) (upd H2 d (.xd [("line", .int (i : Nat))])) := fun hz H2 s2 d hd =>
      hE i d _ (s2.trans (Same.new hd _)) (by omega) hok hz upd_same
    refine ⟨T0, _, rfl, SqT.of hTT, rfl, _, _, rfl, _, _, rfl, rfl, ?_⟩
    refine ⟨_, rfl, _, _, rfl, rfl, _, rfl, ?_⟩
    refine iteD (fun z => ?_) (fun z => ?_)
    · have z1 : ¬ i < 30 := by have : (30 : Int) <= (i : Int) := z; omega
      exact ⟨_, rfl, _, rfl, stop (by unfold okL; rw [decide_eq_false z1]; rfl) HT sH⟩
    have z1 : i < 30 := by have : ¬ (30 : Int) <= (i : Int) := z; omega
    refine ⟨_, rfl, wa, ws, rfl, sH.seq hq, hL.ne ws hwm, hL.wid ws hwm, hL.len ws hwm, fun H1 s1 => ⟨_, rfl, ?_⟩⟩
    have sH1 := sH.trans s1
    cases hb : isLineB ws with
    | false =>
      refine iteT ?_
      exact ⟨_, rfl, _, rfl, stop (by unfold okL; rw [hgd, hb, decide_eq_true z1]; rfl) H1 sH1⟩
    | true =>
      refine iteF ?_
      have h0a : 0 < as.length := by omega
      obtain ⟨ws0, hws0, hq0⟩ := paired_get hL.at_ (List.getElem?_eq_getElem h0a)
      have hgd0 : wss.getD 0 [] = ws0 := by rw [List.getD_eq_getElem?_getD, hws0]; rfl
      have hat : atI (as.map V.ref) 0 = some (.ref as[0]) := atI_nat (j := 0) (by rw [List.getElem?_map, List.getElem?_eq_getElem h0a]; rfl)
      refine ⟨_, rfl, wa, _, rfl, .inl (sH1.seq hq), _, rfl, a, _, _, _, rfl, rfl, sH1.seq hL.lst, hat, as[0], _, rfl, .inl (sH1.seq hq0), rfl, _, rfl, ?_⟩
      have eL : okL wss i = decide (ws.length = ws0.length) := by unfold okL; rw [hgd, hgd0, hb, decide_eq_true z1]; rfl
      refine iteND (fun y => ?_) (fun y => ?_)
      · have y1 : ¬ ws.length = ws0.length := fun w => y (by show V.int ((ws.map V.str).length : Int) = V.int ((ws0.map V.str).length : Int); rw [List.length_map, List.length_map, w])
        exact ⟨_, rfl, _, rfl, stop (by rw [eL, decide_eq_false y1]) H1 sH1⟩
      · have y1 : ws.length = ws0.length := by
          have : V.int ((ws.map V.str).length : Int) = V.int ((ws0.map V.str).length : Int) := y
          rw [List.length_map, List.length_map] at this
          injection this with this
          omega
        refine ⟨_, _, rfl, sH1, fun j hj => ?_⟩
        by_cases hji : j = i
        · rw [hji, eL, decide_eq_true y1]
        · exact hok j (by omega)
  · rintro σ H' ⟨v1, v2, rfl, s, hok⟩
    rw [List.length_map, hal] at hok
    exact q H' s hok
end
end Mw
namespace Mw
open PySem L2
section
variable {P : Program} {w : World} {K : PySem.W.Frag} {mg : Str -> Option Value} {base : Heap} {f : Addr} {fd : FuncData} {nt bt C_Hand C_PlainHand C_Desk X_MendError X_NoFraction X_NoPoint X_NoSide X_NoRow X_NoTable X_NoText X_NotParted X_OneSide X_TooMany X_WrongBook : Addr}
theorem sc_fraction_of : FnScope ["word", "pieces"] ["word"] (defScope (top 28)) := ⟨rfl, rfl, rfl, by decide +kernel, rfl, by decide +kernel, by decide +kernel⟩
theorem ok_fraction_of (F : Fun K "fraction_of" "fraction_of" (top 28) f fd) (T : Txt BN mg) : FnOk P w K mg base CX0 1 f fd ["word"] spFracOf := by
  refine F.ok sc_fraction_of (fun vs H Q E h => ?_) (fun cdv A outer s H vs Q E hr h => ?_)
  · obtain ⟨w, t, b, rfl, _⟩ := h
    rfl
  obtain ⟨w, t, b, rfl, hl, hf, q⟩ := h
  refine ⟨_, (pss_cons (ps_set (i := 1) sc_fraction_of.nd rfl (Or.inl rfl) (pe_bmK (K := K) rfl PySem.F.plainAttrs_str PySem.F.slot_str_partition PySem.F.type_str_partition mt_part (pv 0) (pa_cons pe_str pa_nil)))
      (pss_one (ps_ret (pe_tup (pa_cons (pe_callTy call_intS rfl (T.nb "int" (by decide)) (by decide +kernel) (pa_cons (pe_ix (ix_tupK (K := K) rfl) (pv 1) pe_int (fun _ _ => rfl)) pa_nil)) (pa_cons (pe_ifExp (pt_cmpR op_eq (pe_ix (ix_tupK (K := K) rfl) (pv 1) pe_int (fun _ _ => rfl)) pe_str (nomark _)) pe_int (pe_callTy call_intS rfl (T.nb "int" (by decide)) (by decide +kernel) (pa_cons (pe_ix (ix_tupK (K := K) rfl) (pv 1) pe_int (fun _ _ => rfl)) pa_nil))) pa_nil)))))), ?_⟩
  have hpl := PyProof.Rows.fact_partition w "/"
  unfold fracW at hf
  obtain ⟨t', ht, hf⟩ := Option.bind_eq_some_iff.mp hf
  refine ⟨_, rfl, rfl, w, "/", rfl, rfl, by decide +kernel, len1000 (by omega), fun p hp => ?_⟩
  have s1 := Same.new hp (.tup [.str (Txt.partition w "/").1, .str (Txt.partition w "/").2.1, .str (Txt.partition w "/").2.2])
  have hP : upd H p (.tup [.str (Txt.partition w "/").1, .str (Txt.partition w "/").2.1, .str (Txt.partition w "/").2.2]) p = some (.tup [.str (Txt.partition w "/").1, .str (Txt.partition w "/").2.1, .str (Txt.partition w "/").2.2]) := upd_same
  have fr : ∀ {r}, upd H p (.tup [.str (Txt.partition w "/").1, .str (Txt.partition w "/").2.1, .str (Txt.partition w "/").2.2]) r = none -> H r = none := fun {r} h => by
    cases e : H r with
    | none => rfl
    | some o => rw [s1 _ _ e] at h; cases h
  generalize upd H p (.tup [.str (Txt.partition w "/").1, .str (Txt.partition w "/").2.1, .str (Txt.partition w "/").2.2]) = H1 at *
  refine ⟨_, rfl, p, _, _, _, rfl, rfl, SqT.of hP, rfl, _, t', rfl, ht, by omega, _, rfl, p, _, _, _, rfl, rfl, SqT.of hP, rfl, rfl, _, rfl, ?_⟩
  refine iteD (fun z => ?_) (fun z => ?_)
  · have z1 : (Txt.partition w "/").2.2 = "" := by injection z
    rw [if_pos z1] at hf
    cases hf
    exact ⟨(by show 2 <= sizeLine; decide), fun r hr => q r _ (s1.trans (Same.new hr _)) (fr hr) upd_same⟩
  · have z1 : ¬ (Txt.partition w "/").2.2 = "" := fun y => z (by rw [y])
    rw [if_neg z1] at hf
    obtain ⟨b', hb, e⟩ := Option.map_eq_some_iff.mp hf
    cases e
    exact ⟨_, rfl, p, _, _, _, rfl, rfl, SqT.of hP, rfl, _, b, rfl, hb, by omega, (by show 2 <= sizeLine; decide), fun r hr => q r _ (s1.trans (Same.new hr _)) (fr hr) upd_same⟩
end
end Mw
namespace Mw
open PySem L2
section
variable {P : Program} {w : World} {K : PySem.W.Frag} {mg : Str -> Option Value} {base : Heap} {f : Addr} {fd : FuncData} {nt bt C_Hand C_PlainHand C_Desk X_MendError X_NoFraction X_NoPoint X_NoSide X_NoRow X_NoTable X_NoText X_NotParted X_OneSide X_TooMany X_WrongBook : Addr}
theorem sc_unit_of : FnScope ["lines", "bottoms", "words"] ["lines"] (defScope (top 29)) := ⟨rfl, rfl, rfl, by decide +kernel, rfl, by decide +kernel, by decide +kernel⟩
theorem ok_unit_of (F : Fun K "unit_of" "unit_of" (top 29) f fd) (T : Txt BN mg) (c_fraction_of : Cal P w K mg base 1 "fraction_of" ["word"] spFracOf) (c_least_multiple : Cal P w K mg base 2 "least_multiple" ["numbers"] (spLcm9 K)) : FnOk P w K mg base CX0 3 f fd ["lines"] (spUnit K) := by
  refine F.ok sc_unit_of (fun vs H Q E h => ?_) (fun cdv A outer s H vs Q E hr h => ?_)
  · obtain ⟨a, as, wss, fss, rfl, _⟩ := h
    rfl
  obtain ⟨a, as, wss, fss, rfl, hL, hR, hf30, hf4, hfo, q⟩ := h
  refine ⟨_, (pss_cons (ps_set (i := 1) sc_unit_of.nd rfl (Or.inl rfl) (pe_lst pa_nil))
      (pss_cons (ps_for PassesOwn.never rfl (pi_list (pv 0)) (pg_name (i := 2) sc_unit_of.nd rfl (Or.inl rfl)) (pss_one (ps_expr (pe_bm PySem.F.plainAttrs_list PySem.F.slot_list_extend PySem.F.type_list_extend mt_extend (pv 1) (pa_cons (pe_comp (sc := defScope (top 29)) (N := ["lines", "bottoms", "words"]) (NB := ["word"]) (fr := [none]) rfl (by decide +kernel) (pi_list (pe_slice (sl_listK (K := K) rfl) (pv 2) (po_some pe_int) po_none)) (fun _ _ _ _ => (pg_name (i := 0) (show (["word"] : List Str).Nodup by decide +kernel) rfl (Or.inl rfl))) (fun _ _ _ _ => .nil) (fun _ _ _ _ => (pe_ix (ix_tupK (K := K) rfl) (pe_cal c_fraction_of (hr.mono (by decide)) rfl (pa_cons (pv 0) pa_nil)) pe_int (fun _ _ => rfl)))) pa_nil)))))
      (pss_one (ps_ret (pe_cal c_least_multiple (hr.mono (by decide)) rfl (pa_cons (pv 1) pa_nil)))))), ?_⟩
  have hal : as.length = wss.length := Paired.length hL.at_
  have hwf : wss.length = fss.length := Paired.length hR
  refine ⟨(by show 0 <= sizeLine; decide), fun c hc => ?_⟩
  refine ⟨_, rfl, a, rfl, ⟨_, (Same.new hc _).seq hL.lst⟩, ?_⟩
  have hfl : ∀ i, (fss.take i).flatten.length <= 4 * i := fun i => by
    induction i with
    | zero => simp
    | succ i ih =>
      rw [List.take_add_one]
      cases e : fss[i]? with
      | none => rw [show (none : Option (List (Int × Int))).toList = [] from rfl, List.append_nil]; omega
      | some fs =>
        rw [show (some fs).toList = [fs] from rfl, List.flatten_append, List.length_append]
        have := hf4 fs (List.mem_of_getElem? e)
        simp only [List.flatten_cons, List.flatten_nil, List.append_nil]
        omega
  refine for_list (xs := as.map V.ref) (fun i σ H' => ∃ v2 : Option V, σ = [some (.ref a), some (.ref c), v2] /\ Same H H' /\ H' c = some (.lst (((fss.take i).flatten.map (·.2)).map V.int)))
    ⟨none, rfl, Same.new hc _, by rw [upd_same]; rfl⟩ (fun i σ H' _ ⟨_, _, s, _⟩ => s.seq hL.lst) ?_ ?_
  · rintro i x σ H' hx ⟨v2, rfl, s, hC⟩
    obtain ⟨wa, hwa, rfl⟩ := of_map hx
    have hia : i < as.length := (List.getElem?_eq_some_iff.mp hwa).1
    obtain ⟨ws, hws, hq⟩ := paired_get hL.at_ hwa
    obtain ⟨fs, hfs, hr⟩ := paired_get hR hws
    have hfm := List.mem_of_getElem? hfs
    have hwm := List.mem_of_getElem? hws
    refine ⟨_, rfl, .inl ⟨rfl, _, SqL.of hC⟩, ?_⟩
    refine ⟨_, rfl, _, rfl, wa, _, rfl, s.seq hq, fun p hp => ?_⟩
    rw [show cutV (ws.map V.str) (some 1) none = (ws.drop 1).map V.str from cut1 ws V.str]
    have s2 := Same.new hp (.lst ((ws.drop 1).map V.str))
    refine ⟨p, rfl, ⟨_, SqL.of upd_same⟩, fun D hD => ?_⟩
    refine comp_list_map (xs := (ws.drop 1).map V.str) (fun v => match v with | .str w => .int ((fracW w).getD (0, 1)).2 | _ => .non) (SqL.of upd_same) (by rw [List.length_map]; exact len1000 (by have := hL.wid ws hwm; rw [List.length_drop]; omega)) hD (fun j x H3 R hx s3 k => ?_) (fun H3 s3 e => ?_)
    · obtain ⟨w, hw, rfl⟩ := of_map hx
      obtain ⟨f, hf, hfw, hwl⟩ := paired_get hr hw
      refine ⟨wk_none (n := 1) rfl, ?_⟩
      refine ⟨_, rfl, w, f.1, f.2, rfl, hwl, hfw, fun r H4 s4 hr0 hR4 => ?_⟩
      refine ⟨r, _, _, _, rfl, rfl, SqT.of hR4, rfl, ?_⟩
      have := k H4 s4
      change R (.int ((fracW w).getD (0, 1)).2) H4 at this
      rw [hfw] at this
      exact this
    · have e2 : ((ws.drop 1).map V.str).map (fun v => match v with | .str w => .int ((fracW w).getD (0, 1)).2 | _ => .non) = (fs.map (·.2)).map V.int := by
        rw [List.map_map, List.map_map]
        refine List.ext_getElem? fun j => ?_
        rw [List.getElem?_map, List.getElem?_map]
        cases hw : (ws.drop 1)[j]? with
        | none =>
          have : fs[j]? = none := List.getElem?_eq_none (by rw [<- Paired.length hr]; exact List.getElem?_eq_none_iff.mp hw)
          rw [this]; rfl
        | some w =>
          obtain ⟨f, hf, hfw, hwl⟩ := paired_get hr hw
          rw [hf]
          show some (V.int ((fracW w).getD (0, 1)).2) = some (V.int f.2)
          rw [hfw]; rfl
      rw [e2] at e
      have hC3 := (s2.trans s3) _ _ hC
      refine ⟨c, D, _, _, rfl, rfl, hC3, e, ?_, some (.ref wa), rfl, (s.trans (s2.trans s3)).upd_old hc, ?_⟩
      · have h1 := hfl i
        have h2 := hf4 fs hfm
        rw [List.length_map, List.length_map, List.length_map, List.length_map]
        exact len1000 (by omega)
      · rw [upd_same, List.take_add_one, hfs, <- List.map_append, <- List.map_append, List.flatten_append]
        simp
  · rintro σ H' ⟨v2, rfl, s, hC⟩
    rw [List.length_map, hal, hwf, List.take_length] at hC
    have hob : OkB (fss.flatten.map (·.2)) := fun b hb => by
      obtain ⟨f, hf, rfl⟩ := List.mem_map.mp hb
      obtain ⟨fs, hfs, hf⟩ := List.mem_flatten.mp hf
      exact (hfo fs hfs f hf).bot
    exact ⟨_, rfl, c, _, rfl, SqL.of hC, hob, q H' s⟩
end
end Mw
namespace Mw
open PySem L2
section
variable {P : Program} {w : World} {K : PySem.W.Frag} {mg : Str -> Option Value} {base : Heap} {f : Addr} {fd : FuncData} {nt bt C_Hand C_PlainHand C_Desk X_MendError X_NoFraction X_NoPoint X_NoSide X_NoRow X_NoTable X_NoText X_NotParted X_OneSide X_TooMany X_WrongBook : Addr}
theorem sc_in_units : FnScope ["word", "unit", "fraction"] ["word", "unit"] (defScope (top 30)) := ⟨rfl, rfl, rfl, by decide +kernel, rfl, by decide +kernel, by decide +kernel⟩
theorem ok_in_units (F : Fun K "in_units" "in_units" (top 30) f fd) (T : Txt BN mg) (c_fraction_of : Cal P w K mg base 1 "fraction_of" ["word"] spFracOf) : FnOk P w K mg base CX0 2 f fd ["word", "unit"] spInU := by
  refine F.ok sc_in_units (fun vs H Q E h => ?_) (fun cdv A outer s H vs Q E hr h => ?_)
  · obtain ⟨w, f, u, rfl, _⟩ := h
    rfl
  obtain ⟨w, f, u, rfl, hl, hf, ho, hu0, hu1, q⟩ := h
  refine ⟨_, (pss_cons (ps_set (i := 2) sc_in_units.nd rfl (Or.inl rfl) (pe_cal c_fraction_of (hr.mono (by decide)) rfl (pa_cons (pv 0) pa_nil)))
      (pss_one (ps_ret (pe_op op_mulB (pe_ix (ix_tupK (K := K) rfl) (pv 2) pe_int (fun _ _ => rfl)) (pe_op op_fdivP (pv 1) (pe_ix (ix_tupK (K := K) rfl) (pv 2) pe_int (fun _ _ => rfl))))))), ?_⟩
  have ht := ho.top
  have hb := ho.bot
  refine ⟨_, rfl, w, f.1, f.2, rfl, hl, hf, fun p H1 s1 hp hP => ?_⟩
  have h3 : (u / f.2).natAbs <= u.natAbs := Int.natAbs_ediv_le_natAbs _ _
  exact ⟨_, rfl, p, _, _, _, rfl, rfl, SqT.of hP, rfl, _, rfl, _, rfl, p, _, _, _, rfl, rfl, SqT.of hP, rfl, _, _, rfl, rfl, div64 hb.1 (by omega), _, _, rfl, rfl, mul64 (by omega) (by omega) (by omega) (by omega), q H1 s1⟩
end
end Mw
namespace Mw
open PySem L2
section
variable {P : Program} {w : World} {K : PySem.W.Frag} {mg : Str -> Option Value} {base : Heap} {f : Addr} {fd : FuncData} {nt bt C_Hand C_PlainHand C_Desk X_MendError X_NoFraction X_NoPoint X_NoSide X_NoRow X_NoTable X_NoText X_NotParted X_OneSide X_TooMany X_WrongBook : Addr}
theorem sc_row_of : FnScope ["words", "unit"] ["words", "unit"] (defScope (top 31)) := ⟨rfl, rfl, rfl, by decide +kernel, rfl, by decide +kernel, by decide +kernel⟩
theorem ok_row_of (F : Fun K "row_of" "row_of" (top 31) f fd) (T : Txt BN mg) (c_in_units : Cal P w K mg base 2 "in_units" ["word", "unit"] spInU) : FnOk P w K mg base CX0 3 f fd ["words", "unit"] (spRowOf K) := by
  refine F.ok sc_row_of (fun vs H Q E h => ?_) (fun cdv A outer s H vs Q E hr h => ?_)
  · obtain ⟨a, ws, fs, u, s0, w0, rfl, _⟩ := h
    rfl
  obtain ⟨a, ws, fs, u, s0, w0, rfl, hA, hl, hrd, hfo, hu0, hu1, h0, hs0, hl0, q⟩ := h
  refine ⟨_, (pss_one (ps_ret (pe_tup (pa_cons (pe_callTy (call_tupleK (K := K) rfl) rfl (T.nb "tuple" (by decide)) (by decide +kernel) (pa_cons (pe_comp (sc := defScope (top 31)) (N := ["words", "unit"]) (NB := ["word", "unit"]) (fr := [none, some 1]) rfl (by decide +kernel) (pi_list (pe_slice (sl_listK (K := K) rfl) (pv 0) (po_some pe_int) po_none)) (fun _ _ _ _ => (pg_name (i := 0) (show (["word", "unit"] : List Str).Nodup by decide +kernel) rfl (Or.inl rfl))) (fun _ _ _ _ => .nil) (fun _ _ _ _ => (pe_cal c_in_units (hr.mono (by decide)) rfl (pa_cons (pv 0) (pa_cons (pv 1) pa_nil))))) pa_nil)) (pa_cons (pe_callTy call_intS rfl (T.nb "int" (by decide)) (by decide +kernel) (pa_cons (pe_ix (ix_listK (K := K) rfl) (pv 0) pe_int (fun _ _ => rfl)) pa_nil)) pa_nil))))), ?_⟩
  refine ⟨_, rfl, _, rfl, a, _, rfl, hA, fun c hc => ?_⟩
  rw [show cutV (ws.map V.str) (some 1) none = (ws.drop 1).map V.str from cut1 ws V.str]
  have s1 := Same.new hc (.lst ((ws.drop 1).map V.str))
  refine ⟨c, rfl, ⟨_, SqL.of upd_same⟩, fun D hD => ?_⟩
  refine comp_list_map (xs := (ws.drop 1).map V.str) (fun v => match v with | .str w => .int (inU u ((fracW w).getD (0, 1))) | _ => .non) (SqL.of upd_same) (by rw [List.length_map]; exact len1000 (by rw [List.length_drop]; omega)) hD (fun j x H3 R hx s3 k => ?_) (fun H3 s3 e => ?_)
  · obtain ⟨w, hw, rfl⟩ := of_map hx
    obtain ⟨f, hf, hfw, hwl⟩ := paired_get hrd hw
    refine ⟨wk1 rfl, ?_⟩
    refine ⟨_, rfl, _, rfl, w, f, u, rfl, hwl, hfw, hfo f (List.mem_of_getElem? hf), hu0, hu1, fun H4 s4 => ?_⟩
    have := k H4 s4
    change R (.int (inU u ((fracW w).getD (0, 1)))) H4 at this
    rw [hfw] at this
    exact this
  · have e2 : ((ws.drop 1).map V.str).map (fun v => match v with | .str w => .int (inU u ((fracW w).getD (0, 1))) | _ => .non) = (fs.map (inU u)).map V.int := by
      rw [List.map_map, List.map_map]
      refine List.ext_getElem? fun j => ?_
      rw [List.getElem?_map, List.getElem?_map]
      cases hw : (ws.drop 1)[j]? with
      | none =>
        have : fs[j]? = none := List.getElem?_eq_none (by rw [<- Paired.length hrd]; exact List.getElem?_eq_none_iff.mp hw)
        rw [this]; rfl
      | some w =>
        obtain ⟨f, hf, hfw, hwl⟩ := paired_get hrd hw
        rw [hf]
        show some (V.int (inU u ((fracW w).getD (0, 1)))) = some (V.int (inU u f))
        rw [hfw]; rfl
    rw [e2] at e
    have s13 := s1.trans s3
    refine ⟨D, _, rfl, .inl ⟨SqL.of e, fun t ht => ?_⟩⟩
    have s4 := Same.new ht (.tup ((fs.map (inU u)).map V.int))
    have hat : atI (ws.map V.str) 0 = some (.str w0) := atI_nat (j := 0) (by rw [List.getElem?_map, h0]; rfl)
    refine ⟨_, rfl, a, _, _, _, rfl, rfl, (s13.trans s4).seq hA, hat, w0, s0, rfl, hs0, by omega, (by show 2 <= sizeLine; decide), fun p hp => ?_⟩
    have s5 := Same.new hp (.tup [.ref t, .int s0])
    have s15 := s13.trans (s4.trans s5)
    refine q p t _ s15 ?_ ?_ upd_same (s5 _ _ upd_same)
    · cases z : H p with
      | none => rfl
      | some o => rw [(s13.trans s4) _ _ z] at hp; cases hp
    · cases z : H t with
      | none => rfl
      | some o => rw [s13 _ _ z] at ht; cases ht
end
end Mw
namespace Mw
open PySem L2
section
variable {P : Program} {w : World} {K : PySem.W.Frag} {mg : Str -> Option Value} {base : Heap} {f : Addr} {fd : FuncData} {nt bt C_Hand C_PlainHand C_Desk X_MendError X_NoFraction X_NoPoint X_NoSide X_NoRow X_NoTable X_NoText X_NotParted X_OneSide X_TooMany X_WrongBook : Addr}
theorem sc_look_at_reach : FnScope ["rows", "point", "side"] ["rows"] (defScope (top 32)) := ⟨rfl, rfl, rfl, by decide +kernel, rfl, by decide +kernel, by decide +kernel⟩
theorem ok_look_at_reach (F : Fun K "look_at_reach" "look_at_reach" (top 32) f fd) (T : Txt BN mg) (GC : Consts K mg bt) (gm_notext : XCal P w K mg base 2 "NoText" nt "line") : FnOk P w K mg base (CXE P w) 4 f fd ["rows"] (spReach K nt) := by
  refine F.okX sc_look_at_reach (fun vs H Q E h => ?_) (fun cdv A outer s H vs Q E hr h => ?_)
  · obtain ⟨a, as, rs, rfl, _⟩ := h
    rfl
  obtain ⟨a, as, rs, rfl, hA, hR, hl, hw, q, hE⟩ := h
  refine ⟨_, (pss_one (ps_for PassesOwn.leaving rfl (pi_list (pv 0)) (pg_tupK (K := K) (n := 2) rfl rfl (pgs_cons (pg_name (i := 1) sc_look_at_reach.nd rfl (Or.inl rfl)) (pgs_cons (pg_name (i := 2) sc_look_at_reach.nd rfl (Or.inl rfl)) pgs_nil))) (pss_one (ps_if (pt_val (pe_callB (call_anyB rfl) rfl (T.nb "any" (by decide)) (by decide +kernel) (pa_cons (pe_comp (sc := defScope (top 32)) (N := ["rows", "point", "side"]) (NB := ["number"]) (fr := [none]) rfl (by decide +kernel) (pi_tupK (K := K) rfl (pv 1)) (fun _ _ _ _ => (pg_name (i := 0) (show (["number"] : List Str).Nodup by decide +kernel) rfl (Or.inl rfl))) (fun _ _ _ _ => .nil) (fun _ _ _ _ => (pe_cmpR op_gt (pe_callB call_abs rfl (T.nb "abs" (by decide)) (by decide +kernel) (pa_cons (pv 0) pa_nil)) (pe_gc GC.REACH rfl) (nomark _)))) pa_nil))) (pss_one (ps_raiseI rfl gm_notext (hr.mono (by decide)) rfl raiseD_out (pa_cons pe_int pa_nil))) pss_nil)))), ?_⟩
  have hal : as.length = rs.length := Paired.length hR
  refine ⟨_, rfl, a, rfl, ⟨_, hA⟩, ?_⟩
  refine for_list (xs := as.map V.ref) (fun i σ H' => ∃ (v1 v2 : Option V), σ = [some (.ref a), v1, v2] /\ Same H H' /\ overB (rs.take i) = false)
    ⟨none, none, rfl, Same.refl _, rfl⟩ (fun i σ H' _ ⟨_, _, _, s, _⟩ => s.seq hA) ?_ ?_
  · rintro i x σ H' hx ⟨v1, v2, rfl, s, hov⟩
    obtain ⟨ra, hra, rfl⟩ := of_map hx
    obtain ⟨r, hr1, pa, hq1, hq2⟩ := paired_get hR hra
    refine ⟨ra, _, rfl, s.seqT hq1, rfl, _, _, rfl, _, _, rfl, rfl, ?_⟩
    have eo : overB (rs.take (i + 1)) = (r.1.any fun n => decide (1000 < (if n < 0 then -n else n))) := by
      unfold overB at hov ⊢
      rw [List.take_add_one, hr1, List.any_append, hov]
      simp
    refine ⟨_, rfl, pa, rfl, ⟨_, s.seqT hq2⟩, fun D hD => ?_⟩
    refine comp_tup_map (xs := r.1.map V.int) (fun v => match v with | .int n => .bl (decide (1000 < (if n < 0 then -n else n))) | _ => .non) (s.seqT hq2) (by rw [List.length_map]; exact len1000 (hw r (List.mem_of_getElem? hr1))) hD (fun j x H3 R hx s3 k => ?_) (fun H3 s3 e => ?_)
    · obtain ⟨n, hn, rfl⟩ := of_map hx
      refine ⟨wk_none (n := 1) rfl, ?_⟩
      exact ⟨_, rfl, n, rfl, _, _, rfl, rfl, k H3 (Same.refl _)⟩
    · refine ⟨D, r.1.map (fun n => decide (1000 < (if n < 0 then -n else n))), rfl, .inl (.inl (by rw [e, List.map_map, List.map_map]; rfl)), ?_⟩
      rw [show (r.1.map (fun n => decide (1000 < (if n < 0 then -n else n)))).any id = overB (rs.take (i + 1)) from by rw [eo, List.any_map]; rfl]
      refine ⟨_, rfl, ?_⟩
      cases hb : overB (rs.take (i + 1)) with
      | true =>
        refine iteT ?_
        refine ⟨_, rfl, fun d hd => hE d _ ((s.trans s3).trans (Same.new hd _)) ?_ upd_same⟩
        unfold overB at hb ⊢
        obtain ⟨z, hz, h⟩ := List.any_eq_true.mp hb
        exact List.any_eq_true.mpr ⟨z, List.mem_of_mem_take hz, h⟩
      | false => exact iteF ⟨_, _, rfl, s.trans s3, rfl⟩
  · rintro σ H' ⟨v1, v2, rfl, s, hov⟩
    rw [List.length_map, hal, List.take_length] at hov
    exact q H' s hov
end
end Mw
namespace Mw
open PySem L2
section
variable {P : Program} {w : World} {K : PySem.W.Frag} {mg : Str -> Option Value} {base : Heap} {f : Addr} {fd : FuncData} {nt bt C_Hand C_PlainHand C_Desk X_MendError X_NoFraction X_NoPoint X_NoSide X_NoRow X_NoTable X_NoText X_NotParted X_OneSide X_TooMany X_WrongBook : Addr}
theorem sc_read_rows : FnScope ["text", "lines", "unit", "rows"] ["text"] (defScope (top 33)) := ⟨rfl, rfl, rfl, by decide +kernel, rfl, by decide +kernel, by decide +kernel⟩
theorem ok_read_rows (F : Fun K "read_rows" "read_rows" (top 33) f fd) (T : Txt BN mg) (c_look_at_lines : CalX P w K mg base 4 "look_at_lines" ["lines"] (spLines K nt)) (c_unit_of : Cal P w K mg base 3 "unit_of" ["lines"] (spUnit K)) (c_row_of : Cal P w K mg base 3 "row_of" ["words", "unit"] (spRowOf K)) (c_look_at_reach : CalX P w K mg base 4 "look_at_reach" ["rows"] (spReach K nt)) : FnOk P w K mg base (CXE P w) 6 f fd ["text"] (spRead nt) := by
  refine F.okX sc_read_rows (fun vs H Q E h => ?_) (fun cdv A outer s H vs Q E hr h => ?_)
  · obtain ⟨t, rfl, _⟩ := h
    rfl
  obtain ⟨t, rfl, hT, q, hE1, hE2⟩ := h
  refine ⟨_, (pss_cons (ps_join (ps_comp (i := 1) sc_read_rows.nd rfl rfl (sc := defScope (top 33)) (N := ["text", "lines", "unit", "rows"]) (NB := ["line"]) (fr := [none]) rfl (by decide +kernel) (pi_list (pe_bmK (K := K) rfl PySem.F.plainAttrs_str PySem.F.slot_str_split PySem.F.type_str_split mt_split (pv 0) (pa_cons pe_str pa_nil))) (fun _ _ _ _ => (pg_name (i := 0) (show (["line"] : List Str).Nodup by decide +kernel) rfl (Or.inl rfl))) (fun _ _ _ _ => .nil) (fun _ _ _ _ => (pe_bmK (K := K) rfl PySem.F.plainAttrs_str PySem.F.slot_str_split PySem.F.type_str_split mt_split (pv 0) (pa_cons pe_str pa_nil)))))
      (pss_cons (ps_expr (pe_calG c_look_at_lines (hr.mono (by decide)) rfl passG_out (pa_cons (pv 1) pa_nil)))
      (pss_cons (ps_join (ps_set (i := 2) sc_read_rows.nd rfl (Or.inr rfl) (pe_cal c_unit_of (hr.mono (by decide)) rfl (pa_cons (pv 1) pa_nil))))
      (pss_cons (ps_comp (i := 3) sc_read_rows.nd rfl rfl (sc := defScope (top 33)) (N := ["text", "lines", "unit", "rows"]) (NB := ["words", "unit"]) (fr := [none, some 2]) rfl (by decide +kernel) (pi_list (pv 1)) (fun _ _ _ _ => (pg_name (i := 0) (show (["words", "unit"] : List Str).Nodup by decide +kernel) rfl (Or.inl rfl))) (fun _ _ _ _ => .nil) (fun _ _ _ _ => (pe_cal c_row_of (hr.mono (by decide)) rfl (pa_cons (pv 0) (pa_cons (pv 1) pa_nil)))))
      (pss_cons (ps_expr (pe_calG c_look_at_reach (hr.mono (by decide)) rfl passG_out (pa_cons (pv 3) pa_nil)))
      (pss_one (ps_ret (pe_tup (pa_cons (pv 2) (pa_cons (pv 3) pa_nil)))))))))), ?_⟩
  have hwl : (wordsOf t).length = (Txt.split t ⟨#[10]⟩).length := by unfold wordsOf; rw [List.length_map]
  refine ⟨fun σ H' => ∃ (a : Addr) (as : List Addr), σ = [some (.str t), some (.ref a), none, none] /\ Same H H' /\ LnAt K H' a as (wordsOf t), ?_, ?_⟩
  · refine ⟨_, rfl, rfl, t, "\n", rfl, rfl, by decide +kernel, hT.len, by rw [nl_is]; have := hT.many; omega, fun p hp => ?_⟩
    rw [nl_is]
    have s1 := Same.new hp (.lst ((Txt.split t ⟨#[10]⟩).map V.str))
    refine ⟨p, rfl, ⟨_, SqL.of upd_same⟩, fun D hD => ?_⟩
    refine comp_list_rel (xs := (Txt.split t ⟨#[10]⟩).map V.str) (fun H' i y => ∃ a, y = .ref a /\ ∃ ws, (wordsOf t)[i]? = some ws /\ a ≠ D /\ H' a = some (.lst (ws.map V.str))) (fun H1 H2 i y o ⟨a, e, ws, h1, h2, h3⟩ => ⟨a, e, ws, h1, h2, o _ _ h2 h3⟩) (SqL.of upd_same) (by rw [List.length_map]; exact len1000 hT.many) hD (fun i x H1 R hx s2 hD1 k => ?_) (fun ys H1 s2 hY hyl hys => ?_)
    · obtain ⟨l, hl, rfl⟩ := of_map hx
      have hlm := List.mem_of_getElem? hl
      have hwm : Txt.split l ⟨#[32]⟩ ∈ wordsOf t := List.mem_map.mpr ⟨l, hlm, rfl⟩
      refine ⟨wk_none (n := 1) rfl, ?_⟩
      refine ⟨_, rfl, rfl, l, " ", rfl, rfl, by decide +kernel, hT.lin l hlm, by rw [sp_is]; have := hT.few _ hwm; omega, fun r hr0 => ?_⟩
      rw [sp_is]
      refine k _ _ (Same.new hr0 _) ⟨r, rfl, _, ?_, fun z => hD1 (by rw [<- z]; exact hr0), upd_same⟩
      unfold wordsOf
      rw [List.getElem?_map, hl]; rfl
    · obtain ⟨as, rfl, has⟩ := refs_of hys
      rw [List.length_map, List.length_map] at hyl
      refine ⟨D, as, rfl, s1.trans s2, SqL.of hY, paired_of_get (by omega) fun j a ws ha hw => ?_, by have := hT.many; omega, fun ws hws => ?_, hT.few, fun ws hws w hw => by have := hT.word ws hws w hw; omega⟩
      · obtain ⟨ws', h1, h2, h3⟩ := has j a ha
        rw [hw] at h1
        cases h1
        exact SqL.of h3
      · obtain ⟨l, _, rfl⟩ := List.mem_map.mp hws
        have := PyProof.Rows.split_pos l ⟨#[32]⟩
        intro z; rw [z] at this; exact absurd this (by decide)
  rintro σ H1 ⟨a, as, rfl, s1, hL⟩
  refine ⟨_, rfl, a, as, wordsOf t, rfl, hL, fun H2 s2 hok => ?_, fun i d H2 s2 hi hb hc hd => hE1 i d H2 (s1.trans s2) hi hb hc hd⟩
  have hu := unit_ok hok hT.word
  have hL2 : LnAt K H2 a as (wordsOf t) := ⟨s2.seq hL.lst, hL.at_.same s2, hL.few, hL.ne, hL.wid, hL.len⟩
  have s12 := s1.trans s2
  have hline : ∀ {i ws}, (wordsOf t)[i]? = some ws -> i < 30 /\ (ws.drop 1).all isCoordB = true /\ (ws.drop 1).length <= 4 /\ (ws[0]? = some ("0" : Str) \/ ws[0]? = some ("1" : Str)) := fun {i ws} hi =>
    let ⟨a, _, b, c, d⟩ := okL_line hi (hok i (List.getElem?_eq_some_iff.mp hi).1)
    ⟨a, b, c, d⟩
  have h30 : (wordsOf t).length <= 30 := by
    by_cases z : (wordsOf t).length <= 30
    · exact z
    · have := (hline (List.getElem?_eq_getElem (show 30 < (wordsOf t).length by omega))).1
      omega
  have hread : ReadL (wordsOf t) (fssOf (wordsOf t)) := paired_of_get (by unfold fssOf; rw [List.length_map]) fun j ws fs hw hf => by
    unfold fssOf at hf
    rw [List.getElem?_map, hw] at hf
    have : fsOf ws = fs := by simpa using hf
    rw [<- this]
    exact (fs_read (hT.word ws (List.mem_of_getElem? hw)) (hline hw).2.1).1
  have hfs4 : ∀ fs ∈ fssOf (wordsOf t), fs.length <= 4 := fun fs hfs => by
    obtain ⟨ws, hws, rfl⟩ := List.mem_map.mp hfs
    obtain ⟨i, hi⟩ := List.getElem?_of_mem hws
    have := (hline hi).2.2.1
    unfold fsOf
    rw [List.length_map]; exact this
  have hfo : ∀ fs ∈ fssOf (wordsOf t), ∀ f ∈ fs, FrOk4 f := fun fs hfs f hf => by
    obtain ⟨ws, hws, rfl⟩ := List.mem_map.mp hfs
    obtain ⟨i, hi⟩ := List.getElem?_of_mem hws
    exact (fs_read (hT.word ws hws) (hline hi).2.1).2 f hf
  refine ⟨fun σ H' => σ = [some (.str t), some (.ref a), some (.int (unitF (fssOf (wordsOf t)))), none] /\ Same H2 H', ?_, ?_⟩
  · exact ⟨_, rfl, a, as, wordsOf t, fssOf (wordsOf t), rfl, hL2, hread, by unfold fssOf; rw [List.length_map]; exact h30, hfs4, hfo, fun H3 s3 => ⟨rfl, s3⟩⟩
  rintro σ H3 ⟨rfl, s3⟩
  have hal : as.length = (wordsOf t).length := Paired.length hL.at_
  refine ⟨_, rfl, a, rfl, ⟨_, s3.seq hL2.lst⟩, fun D hD => ?_⟩
  refine comp_list_rel (xs := as.map V.ref) (fun H' i y => ∃ p, y = .ref p /\ ∃ ws tp, (wordsOf t)[i]? = some ws /\ p ≠ D /\ tp ≠ D /\ H' p = some (.tup [.ref tp, .int (sideOf ws)]) /\ H' tp = some (.tup (((fsOf ws).map (inU (unitF (fssOf (wordsOf t))))).map V.int)))
    (fun _ _ i y o ⟨p, e, ws, tp, h1, h2, h3, h4, h5⟩ => ⟨p, e, ws, tp, h1, h2, h3, o _ _ h2 h4, o _ _ h3 h5⟩) (s3.seq hL2.lst) (by rw [List.length_map]; exact len1000 (by have := hL.few; omega)) hD (fun i x H4 R hx s4 hD4 k => ?_) (fun ys H4 s4 hY hyl hys => ?_)
  · obtain ⟨wa, hwa, rfl⟩ := of_map hx
    obtain ⟨ws, hws, hq⟩ := paired_get hL2.at_ hwa
    obtain ⟨c30, cc, c4, c01⟩ := hline hws
    have hwm := List.mem_of_getElem? hws
    obtain ⟨r1, r2⟩ := fs_read (hT.word ws hwm) cc
    have hws4 : ws.length <= 1000 := hT.few ws hwm
    obtain ⟨w0, hw0, hi0, hl0⟩ : ∃ w0, ws[0]? = some w0 /\ PySem.intText? w0 = some (sideOf ws) /\ w0.length <= 600 := by
      have rd : ∀ w0 : Str, ws[0]? = some w0 -> (∃ n : Int, PySem.intText? w0 = some n) -> ∃ w0, ws[0]? = some w0 /\ PySem.intText? w0 = some (sideOf ws) /\ w0.length <= 600 := fun w0 e ⟨n, hn⟩ => by
        refine ⟨w0, e, ?_, hT.word ws hwm w0 (List.mem_of_getElem? e)⟩
        have : ws.headD "" = w0 := by
          cases ws with
          | nil => cases e
          | cons x r => simpa using e
        unfold sideOf numOf
        rw [this, hn]; rfl
      rcases c01 with e | e
      · exact rd _ e ⟨_, read_nat (n := 0) (by decide +kernel) (by decide)⟩
      · exact rd _ e ⟨_, read_nat (n := 1) (by decide +kernel) (by decide)⟩
    refine ⟨wk1 rfl, ?_⟩
    refine ⟨_, rfl, _, rfl, wa, ws, fsOf ws, unitF (fssOf (wordsOf t)), sideOf ws, w0, rfl, (s3.trans s4).seq hq, hws4, r1, r2, hu.1, hu.2, hw0, hi0, hl0, fun p tp H5 s5 hp0 ht0 hP hTp => ?_⟩
    exact k _ _ s5 ⟨p, rfl, ws, tp, hws, fun z => hD4 (by rw [<- z]; exact hp0), fun z => hD4 (by rw [<- z]; exact ht0), hP, hTp⟩
  · obtain ⟨ps, rfl, hps⟩ := refs_of hys
    rw [List.length_map, List.length_map] at hyl
    have hrl : (rowsOf (wordsOf t)).length = (wordsOf t).length := by unfold rowsOf; rw [List.length_map]
    have hrowX : RowsX H4 ps (rowsOf (wordsOf t)) := paired_of_get (by omega) fun j p r hp hr => by
      obtain ⟨ws, tp, h1, _, _, h4, h5⟩ := hps j p hp
      unfold rowsOf at hr
      rw [List.getElem?_map, h1] at hr
      have : ((fsOf ws).map (inU (unitF (fssOf (wordsOf t)))), sideOf ws) = r := by simpa using hr
      rw [<- this]
      exact ⟨tp, h4, h5⟩
    have hrows : RowsAt K H4 ps (rowsOf (wordsOf t)) := hrowX.rows
    have hnone : ∀ {b}, H4 b = none -> H b = none := fun {b} h => by
      cases z : H b with
      | none => rfl
      | some o => rw [(s12.trans (s3.trans s4)) _ _ z] at h; cases h
    refine ⟨_, rfl, D, ps, rowsOf (wordsOf t), rfl, SqL.of hY, hrows, by omega, fun r hr => ?_, fun H5 s5 hov => ?_, fun d H5 s5 hov hd => hE2 d H5 (s12.trans (s3.trans (s4.trans s5))) hok hov hd⟩
    · obtain ⟨ws, hws, rfl⟩ := List.mem_map.mp hr
      show ((fsOf ws).map _).length <= 1000
      have := hT.few ws hws
      unfold fsOf
      rw [List.length_map, List.length_map, List.length_drop]
      omega
    · refine ⟨_, rfl, _, rfl, (by show 2 <= sizeLine; decide), fun p hp => ?_⟩
      have s6 := Same.new hp (.tup [.int (unitF (fssOf (wordsOf t))), .ref D])
      have hp4 : H4 p = none := by
        cases z : H4 p with
        | none => rfl
        | some o => rw [s5 _ _ z] at hp; cases hp
      refine q hok hov p D ps _ (s12.trans (s3.trans (s4.trans (s5.trans s6)))) (hnone hp4) ?_ (fun z => by rw [z, hY] at hp4; cases hp4) upd_same ((s5.trans s6) _ _ hY) (hrowX.same (s5.trans s6))
      cases z : H D with
      | none => rfl
      | some o => rw [(s12.trans s3) _ _ z] at hD; cases hD
end
end Mw
namespace Mw
open PySem L2
section
variable {P : Program} {w : World} {K : PySem.W.Frag} {mg : Str -> Option Value} {base : Heap} {f : Addr} {fd : FuncData} {nt bt C_Hand C_PlainHand C_Desk X_MendError X_NoFraction X_NoPoint X_NoSide X_NoRow X_NoTable X_NoText X_NotParted X_OneSide X_TooMany X_WrongBook : Addr}
theorem sc__law_cell_at : FnScope ["_law_script", "_law_k"] ["_law_script", "_law_k"] (defScope (top 40)) := ⟨rfl, rfl, rfl, by decide +kernel, rfl, by decide +kernel, by decide +kernel⟩
theorem ok__law_cell_at (F : Fun K "_law_cell_at" "_law_cell_at" (top 40) f fd) (T : Txt BN mg) : FnOk P w K mg base CX0 1 f fd ["_law_script", "_law_k"] (spCell K) := by
  refine F.ok sc__law_cell_at (fun vs H Q E h => ?_) (fun cdv A outer s H vs Q E hr h => ?_)
  · obtain ⟨a, ns, k, rfl, _⟩ := h
    rfl
  obtain ⟨a, ns, k, rfl, hA, hk, q⟩ := h
  refine ⟨_, (pss_cons (ps_if (pt_cmpR op_lt (pv 1) (pe_callB (call_lenK (K := K) rfl) rfl (T.nb "len" (by decide)) (by decide +kernel) (pa_cons (pv 0) pa_nil)) (nomark _)) (pss_one (ps_ret (pe_ix (ix_listK (K := K) rfl) (pv 0) (pv 1) (fun _ _ => rfl)))) pss_nil)
      (pss_one (ps_ret pe_int))), ?_⟩
  refine ⟨_, rfl, _, rfl, a, _, rfl, .inl hA, _, _, rfl, rfl, _, rfl, ?_⟩
  refine iteD (fun hlt => ?_) (fun _ => ?_)
  · rw [List.length_map] at hlt
    exact ⟨_, rfl, _, rfl, a, _, _, _, rfl, rfl, hA, at_cell hk hlt, q⟩
  · rename_i hge
    rw [List.length_map] at hge
    rw [cell_out hk hge] at q
    exact q
end
end Mw
namespace Mw
open PySem L2
section
variable {P : Program} {w : World} {K : PySem.W.Frag} {mg : Str -> Option Value} {base : Heap} {f : Addr} {fd : FuncData} {nt bt C_Hand C_PlainHand C_Desk X_MendError X_NoFraction X_NoPoint X_NoSide X_NoRow X_NoTable X_NoText X_NotParted X_OneSide X_TooMany X_WrongBook : Addr}
theorem sc__law_mixed : FnScope ["_law_cell", "_law_k", "_law_number"] ["_law_cell", "_law_k"] (defScope (top 41)) := ⟨rfl, rfl, rfl, by decide +kernel, rfl, by decide +kernel, by decide +kernel⟩
theorem ok__law_mixed (F : Fun K "_law_mixed" "_law_mixed" (top 41) f fd) (T : Txt BN mg) : FnOk P w K mg base CX0 1 f fd ["_law_cell", "_law_k"] spMixD := by
  refine F.ok sc__law_mixed (fun vs H Q E h => ?_) (fun cdv A outer s H vs Q E hr h => ?_)
  · obtain ⟨c, k, rfl, _⟩ := h
    rfl
  obtain ⟨c, k, rfl, h0, h1, q⟩ := h
  refine ⟨_, (pss_cons (ps_set (i := 2) sc__law_mixed.nd rfl (Or.inl rfl) (pe_op op_mod (pe_op op_add (pe_op op_add (pe_op op_mulB (pe_op op_mod (pv 0) (pe_op op_pow pe_int pe_int)) pe_int) (pe_op op_mulB (pe_op op_mulB (pv 1) (pv 1)) pe_int)) pe_int) pe_int))
      (pss_one (ps_ret (pe_op op_mod (pe_op op_add (pe_op op_add (pe_op op_mulB (pv 2) pe_int) (pe_op op_mulB (pv 1) pe_int)) pe_int) pe_int)))), ?_⟩
  have e20 : (10 : Int) ^ 20 = 100000000000000000000 := by decide
  have hc0 : 0 <= c % 10 ^ 20 := Int.emod_nonneg _ (by decide)
  have hc1 : c % 10 ^ 20 < 100000000000000000000 := Int.lt_of_lt_of_le (Int.emod_lt_of_pos _ (by decide)) (Int.le_of_eq e20)
  have hkk : k * k <= 1048576 * 1048576 := Int.mul_le_mul (by omega) (by omega) h0 (by decide)
  have hkk0 : 0 <= k * k := Int.mul_nonneg h0 h0
  refine ⟨_, rfl, _, _, rfl, rfl, ⟨by decide, by decide, by decide⟩, _, _, rfl, rfl, (by show (0 : Int) < 10 ^ 20; decide), _, _, rfl, rfl, ?_, _, rfl, _, rfl, _, _, rfl, rfl, mul64 (by omega) (by omega) (by omega) (by omega), _, _, rfl, rfl, mul64 (by show _ < k * k; omega) (by show k * k < _; omega) (by decide) (by decide), _, _, rfl, rfl, _, _, rfl, rfl, _, _, rfl, rfl, (by show (0 : Int) < 2147483647; decide), ?_⟩
  · refine ⟨200, by decide, ?_, ?_⟩
    · show (c % 10 ^ 20).natAbs < 2 ^ 200
      have e : (2 : Nat) ^ 200 = 1606938044258990275541962092341162602522202993782792835301376 := by decide
      omega
    · show (48271 : Int).natAbs < 2 ^ 200
      decide
  generalize hz : (c % 10 ^ 20 * 48271 + k * k * 40692 + 11) % 2147483647 = z
  have m0 : 0 <= z := by rw [<- hz]; exact Int.emod_nonneg _ (by decide)
  have m1 : z < 2147483647 := by rw [<- hz]; exact Int.emod_lt_of_pos _ (by decide)
  refine ⟨_, rfl, _, _, rfl, rfl, mul64 (by omega) (by omega) (by decide) (by decide), _, rfl, _, _, rfl, rfl, mul64 (by omega) (by omega) (by decide) (by decide), _, _, rfl, rfl, _, _, rfl, rfl, _, _, rfl, rfl, (by show (0 : Int) < 2147483629; decide), ?_⟩
  subst hz
  exact q
end
end Mw
namespace Mw
open PySem L2
section
variable {P : Program} {w : World} {K : PySem.W.Frag} {mg : Str -> Option Value} {base : Heap} {f : Addr} {fd : FuncData} {nt bt C_Hand C_PlainHand C_Desk X_MendError X_NoFraction X_NoPoint X_NoSide X_NoRow X_NoTable X_NoText X_NotParted X_OneSide X_TooMany X_WrongBook : Addr}
theorem sc__law_drawn : FnScope ["_law_cell", "_law_base", "_law_many", "_law_found", "_law_left", "_law_k", "_law_digit"] ["_law_cell", "_law_base", "_law_many"] (defScope (top 42)) := ⟨rfl, rfl, rfl, by decide +kernel, rfl, by decide +kernel, by decide +kernel⟩
theorem ok__law_drawn (F : Fun K "_law_drawn" "_law_drawn" (top 42) f fd) (T : Txt BN mg) (c__law_mixed : Cal P w K mg base 1 "_law_mixed" ["_law_cell", "_law_k"] spMixD) : FnOk P w K mg base CX0 2 f fd ["_law_cell", "_law_base", "_law_many"] spDrawnD := by
  refine F.ok sc__law_drawn (fun vs H Q E h => ?_) (fun cdv A outer s H vs Q E hr h => ?_)
  · obtain ⟨c, b, n, rfl, _⟩ := h
    rfl
  obtain ⟨c, b, n, rfl, hb, hb2, hn, q⟩ := h
  refine ⟨_, (pss_cons (ps_set (i := 3) sc__law_drawn.nd rfl (Or.inl rfl) (pe_lst pa_nil))
      (pss_cons (ps_set (i := 4) sc__law_drawn.nd rfl (Or.inl rfl) (pv 0))
      (pss_cons (ps_for PassesOwn.never rfl (pi_range1 rfl (T.nb "range" (by decide)) (pa_cons (pv 2) pa_nil)) (pg_name (i := 5) sc__law_drawn.nd rfl (Or.inl rfl)) (pss_cons (ps_asg (pe_callB call_divmod rfl (T.nb "divmod" (by decide)) (by decide +kernel) (pa_cons (pv 4) (pa_cons (pv 1) pa_nil))) (pg_tupK (K := K) (n := 2) rfl rfl (pgs_cons (pg_name (i := 4) sc__law_drawn.nd rfl (Or.inl rfl)) (pgs_cons (pg_name (i := 6) sc__law_drawn.nd rfl (Or.inl rfl)) pgs_nil))))
      (pss_one (ps_expr (pe_bm PySem.F.plainAttrs_list PySem.F.slot_list_append PySem.F.type_list_append mt_append (pv 3) (pa_cons (pv 6) pa_nil))))))
      (pss_cons (ps_if (pt_cmpR op_gt (pv 4) pe_int (nomark _)) (pss_one (ps_ret (pv 3))) pss_nil)
      (pss_one (ps_ret (pe_comp (sc := defScope (top 42)) (N := ["_law_cell", "_law_base", "_law_many", "_law_found", "_law_left", "_law_k", "_law_digit"]) (NB := ["_law_k", "_law_base", "_law_cell"]) (fr := [none, some 1, some 0]) rfl (by decide +kernel) (pi_range1 rfl (T.nb "range" (by decide)) (pa_cons (pv 2) pa_nil)) (fun _ _ _ _ => (pg_name (i := 0) (show (["_law_k", "_law_base", "_law_cell"] : List Str).Nodup by decide +kernel) rfl (Or.inl rfl))) (fun _ _ _ _ => .nil) (fun _ _ _ _ => (pe_op op_mod (pe_op op_fdivP (pe_cal c__law_mixed (hr.mono (by decide)) rfl (pa_cons (pv 2) (pa_cons (pv 0) pa_nil))) pe_int) (pv 1)))))))))), ?_⟩
  refine ⟨(by show 0 <= sizeLine; decide), fun p hp => ?_⟩
  refine ⟨_, rfl, _, rfl, n, rfl, by omega, by omega, ?_⟩
  refine for_range (lo := 0) (n := n) (fun i σ H' => ∃ v5 v6 : Option V, σ = [some (.int c), some (.int b), some (.int n), some (.ref p), some (.int (leftF c b i)), v5, v6] /\ Same H H' /\ H' p = some (.lst ((digF c b i).map V.int)))
    ⟨none, none, rfl, Same.new hp _, upd_same⟩ ?_ ?_
  · rintro i σ H' hi ⟨v5, v6, rfl, sm, hl⟩
    refine ⟨_, rfl, _, rfl, _, _, rfl, ⟨hb, by omega⟩, fun p1 hp1 => ?_⟩
    have s1 := Same.new hp1 (.tup [.int (leftF c b i / b), .int (leftF c b i % b)])
    refine ⟨p1, _, rfl, SqT.of upd_same, rfl, _, _, rfl, _, _, rfl, rfl, ?_⟩
    have hl1 := s1 _ _ hl
    have hpH : p1 ≠ p := fun e => by rw [e, hl] at hp1; cases hp1
    refine ⟨_, rfl, .inl ⟨rfl, _, SqL.of hl1⟩, _, rfl, p, _, _, rfl, rfl, hl1, by rw [List.length_map, digF_len]; exact small1000 (by omega), ?_⟩
    exact ⟨_, _, rfl, (sm.trans s1).upd_old hp, (by show _ = some (HO.lst ((digF c b i ++ [leftF c b i % b]).map V.int)); rw [upd_same, List.map_append]; rfl)⟩
  · rintro σ H' ⟨v5, v6, rfl, sm, hl⟩
    refine ⟨_, rfl, _, _, rfl, rfl, _, rfl, ?_⟩
    refine iteD (fun z => ?_) (fun z => ?_)
    · exact ⟨_, rfl, q p H' (digF c b n) sm hp hl (digF_len c b n) (digF_low hb n) (by unfold drawnT; rw [if_pos z])⟩
    · refine ⟨_, rfl, n, rfl, by omega, by omega, fun D hD => ?_⟩
      refine comp_range_rel (lo := 0) (n := n) (fun _ j y => y = V.int (mixT c (0 + (j : Nat)) / 7 % b)) (fun _ _ _ _ _ h => h) (Nat.le_of_lt (small1000 (by omega))) hD ?_ ?_
      · intro j H1 R hj s1 _ r3
        refine ⟨⟨rfl, ?_⟩, ?_⟩
        · intro k v ek
          match k, ek with
          | 1, ek => exact ek
          | 2, ek => exact ek
          | 0, ek => simp [carry] at ek
          | k + 3, ek => simp [carry] at ek
        refine ⟨_, rfl, _, rfl, c, _, rfl, by omega, by omega, ?_⟩
        refine ⟨_, _, rfl, rfl, div64 (by decide) (by decide), _, rfl, _, _, rfl, rfl, hb, ?_⟩
        exact r3 _ _ (Same.refl _) rfl
      intro ys H1 s1 hL1 hyl hys
      have ey : ys = ((List.range n).map fun (j : Nat) => mixT c (0 + (j : Nat)) / 7 % b).map V.int := by
        rw [List.map_map]
        refine ys_map (by rw [hyl, List.length_range]) fun j y r hy hr => ?_
        have : r = j := by
          have h1 := (List.getElem?_eq_some_iff.mp hr).1
          rw [List.getElem?_eq_getElem h1, List.getElem_range] at hr
          exact (Option.some.inj hr).symm
        rw [this]
        exact hys j y hy
      subst ey
      refine q D H1 _ (sm.trans s1) (sm.free hD) hL1 (by rw [List.length_map, List.length_range]) (fun d hd => ?_) (by unfold drawnT; rw [if_neg z])
      obtain ⟨j, _, rfl⟩ := List.mem_map.mp hd
      exact ⟨Int.emod_nonneg _ (by omega), Int.emod_lt_of_pos _ hb⟩
end
end Mw
namespace Mw
open PySem L2
section
variable {P : Program} {w : World} {K : PySem.W.Frag} {mg : Str -> Option Value} {base : Heap} {f : Addr} {fd : FuncData} {nt bt C_Hand C_PlainHand C_Desk X_MendError X_NoFraction X_NoPoint X_NoSide X_NoRow X_NoTable X_NoText X_NotParted X_OneSide X_TooMany X_WrongBook : Addr}
theorem sc__law_factor : FnScope ["_law_one", "_law_other"] ["_law_one", "_law_other"] (defScope (top 43)) := ⟨rfl, rfl, rfl, by decide +kernel, rfl, by decide +kernel, by decide +kernel⟩
theorem ok__law_factor (F : Fun K "_law_factor" "_law_factor" (top 43) f fd) (T : Txt BN mg) : FnOk P w K mg base CX0 1 f fd ["_law_one", "_law_other"] spFac := by
  refine F.ok sc__law_factor (fun vs H Q E h => ?_) (fun cdv A outer s H vs Q E hr h => ?_)
  · obtain ⟨a, b, rfl, _⟩ := h
    rfl
  obtain ⟨a, b, rfl, hb, q⟩ := h
  refine ⟨_, (pss_cons (ps_while PassesOwn.never (pt_cmpR op_ne (pv 1) pe_int (nomark _)) (pss_one (ps_par (i := 0) (j := 1) rfl sc__law_factor.nd rfl rfl (by decide) rfl rfl (pa_cons (pv 1) (pa_cons (pe_op op_mod (pv 0) (pv 1)) pa_nil)) rfl)))
      (pss_one (ps_ret (pe_callB call_abs rfl (T.nb "abs" (by decide)) (by decide +kernel) (pa_cons (pv 0) pa_nil))))), ?_⟩
  refine while_by (fun σ H' => ∃ x y : Int, σ = [some (.int x), some (.int y)] /\ H' = H /\ 0 <= y /\ Int.gcd x y = Int.gcd a b)
    (fun σ _ => match σ with | [_, some (.int y)] => y.natAbs | _ => 0) ⟨_, _, rfl, rfl, hb, rfl⟩ ?_ (fun σ H Q Q' m ⟨v, e, h1, k, ek, q⟩ => ⟨v, e, h1, k, ek, m _ _ q⟩)
  rintro σ H2 ⟨x, y, rfl, rfl, hy, hg⟩
  refine ⟨_, rfl, rfl, _, rfl, ?_⟩
  refine iteND (fun hyp => ?_) (fun hyn => ?_)
  · have hy1 : 0 < y := by
      have : y ≠ 0 := fun z => hyp (by rw [z])
      omega
    have hlt : x % y < y := Int.emod_lt_of_pos x hy1
    have hge : 0 <= x % y := Int.emod_nonneg x (by omega)
    refine ⟨_, rfl, _, rfl, _, rfl, _, _, rfl, rfl, hy1, _, _, rfl, ⟨y, x % y, rfl, rfl, hge, ?_⟩, ?_⟩
    · rw [<- hg, Int.gcd_comm x y, Int.emod_def, Int.gcd_sub_mul_left_right]
    · show (x % y).natAbs < y.natAbs
      omega
  · have hy0 : y = 0 := by injection hyn
    refine ⟨_, rfl, x, rfl, ?_⟩
    have e : (if x < 0 then -x else x) = (Int.gcd a b : Int) := by
      rw [<- hg, hy0, Int.gcd_zero_right]
      split <;> omega
    show Q (.int (if x < 0 then -x else x)) H2
    rw [e]
    exact q
end
end Mw
namespace Mw
open PySem L2
section
variable {P : Program} {w : World} {K : PySem.W.Frag} {mg : Str -> Option Value} {base : Heap} {f : Addr} {fd : FuncData} {nt bt C_Hand C_PlainHand C_Desk X_MendError X_NoFraction X_NoPoint X_NoSide X_NoRow X_NoTable X_NoText X_NotParted X_OneSide X_TooMany X_WrongBook : Addr}
theorem sc__law_coordinate : FnScope ["_law_number", "_law_bottoms", "_law_most", "_law_bottom", "_law_top", "_law_shared"] ["_law_number", "_law_bottoms", "_law_most"] (defScope (top 44)) := ⟨rfl, rfl, rfl, by decide +kernel, rfl, by decide +kernel, by decide +kernel⟩
theorem ok__law_coordinate (F : Fun K "_law_coordinate" "_law_coordinate" (top 44) f fd) (T : Txt BN mg) (c__law_factor : Cal P w K mg base 1 "_law_factor" ["_law_one", "_law_other"] spFac) : FnOk P w K mg base CX0 2 f fd ["_law_number", "_law_bottoms", "_law_most"] (spCooD K) := by
  refine F.ok sc__law_coordinate (fun vs H Q E h => ?_) (fun cdv A outer s H vs Q E hr h => ?_)
  · obtain ⟨n, mo, L, a, bs, rfl, _⟩ := h
    rfl
  obtain ⟨n, mo, L, a, bs, rfl, h0, h1, hA, hK, q⟩ := h
  refine ⟨_, (pss_cons (ps_set (i := 3) sc__law_coordinate.nd rfl (Or.inl rfl) (pe_ix (ix_listK (K := K) rfl) (pv 1) (pe_op op_mod (pv 0) (pe_callB (call_lenK (K := K) rfl) rfl (T.nb "len" (by decide)) (by decide +kernel) (pa_cons (pv 1) pa_nil))) (fun _ _ => rfl)))
      (pss_cons (ps_join (ps_set (i := 4) sc__law_coordinate.nd rfl (Or.inl rfl) (pe_op op_sub (pe_op op_mod (pe_op op_fdivP (pv 0) (pe_callB (call_lenK (K := K) rfl) rfl (T.nb "len" (by decide)) (by decide +kernel) (pa_cons (pv 1) pa_nil))) (pe_op op_add (pe_op op_mulB pe_int (pv 2)) pe_int)) (pv 2))))
      (pss_cons (ps_set (i := 5) sc__law_coordinate.nd rfl (Or.inl rfl) (pe_cal c__law_factor (hr.mono (by decide)) rfl (pa_cons (pv 4) (pa_cons (pv 3) pa_nil))))
      (pss_one (ps_ret (pe_tup (pa_cons (pe_op op_fdivP (pv 4) (pv 5)) (pa_cons (pe_op op_fdivP (pv 3) (pv 5)) pa_nil)))))))), ?_⟩
  have hm := hK.mo
  have hm0 := hK.m0
  obtain ⟨hne, hl4⟩ := hK.few
  have hlp : 0 < bs.length := List.length_pos_iff.mpr hne
  have hlm : (((bs.map V.int).length : Nat) : Int) = (bs.length : Int) := by rw [List.length_map]
  have hmod0 : 0 <= n % (bs.length : Int) := Int.emod_nonneg _ (by omega)
  have hmod1 : n % (bs.length : Int) < (bs.length : Int) := Int.emod_lt_of_pos _ (by omega)
  obtain ⟨j, ej⟩ : ∃ j : Nat, n % (bs.length : Int) = (j : Int) := ⟨(n % (bs.length : Int)).toNat, by omega⟩
  have hj : j < bs.length := by omega
  have hat : atI (bs.map V.int) (n % (((bs.map V.int).length : Nat) : Int)) = some (.int bs[j]) := by
    rw [hlm, ej]
    exact atI_nat (by rw [List.getElem?_map, List.getElem?_eq_getElem hj]; rfl)
  have hbm : bs[j] ∈ bs := List.getElem_mem hj
  obtain ⟨b0, b9, bd⟩ := hK.bot _ hbm
  refine ⟨_, rfl, _, rfl, _, rfl, a, _, rfl, .inl hA, _, _, rfl, rfl, (by show (0 : Int) < (((bs.map V.int).length : Nat) : Int); omega), a, _, _, _, rfl, rfl, hA, hat, ?_⟩
  refine ⟨fun σ H' => ∃ t : Int, σ = [some (.int n), some (.ref a), some (.int mo), some (.int bs[j]), some (.int t), none] /\ H' = H /\ -mo <= t /\ t <= mo /\ t = cooN n bs mo, ?_, ?_⟩
  · refine ⟨_, rfl, _, rfl, a, _, rfl, .inl hA, _, _, rfl, rfl, div64 (by show (0 : Int) < (((bs.map V.int).length : Nat) : Int); omega) (by show (((bs.map V.int).length : Nat) : Int) < _; omega), _, rfl, _, _, rfl, rfl, mul64 (by decide) (by decide) (by omega) (by omega), _, _, rfl, rfl, _, _, rfl, rfl, (by show (0 : Int) < 2 * mo + 1; omega), _, rfl, _, _, rfl, rfl, ?_⟩
    have t0 : 0 <= n / (((bs.map V.int).length : Nat) : Int) % (2 * mo + 1) := Int.emod_nonneg _ (by omega)
    have t1 : n / (((bs.map V.int).length : Nat) : Int) % (2 * mo + 1) < 2 * mo + 1 := Int.emod_lt_of_pos _ (by omega)
    exact ⟨_, rfl, rfl, by omega, by omega, by unfold cooN; rw [hlm]⟩
  rintro σ H1 ⟨t, rfl, eH, t0, t1, et⟩
  cases eH
  have ht : -mo <= t /\ t <= mo := ⟨t0, t1⟩
  refine ⟨_, rfl, _, rfl, _, bs[j], rfl, by omega, ?_⟩
  have hg : 0 < Int.gcd t bs[j] := Int.gcd_pos_of_ne_zero_right t (by omega)
  have gl : Int.gcd t bs[j] <= bs[j].natAbs := gcd_le_right (by omega)
  refine ⟨_, rfl, _, rfl, _, _, rfl, rfl, div64 (by show (0 : Int) < (Int.gcd t bs[j] : Int); omega) (by show (Int.gcd t bs[j] : Int) < _; omega), _, rfl, _, rfl, _, _, rfl, rfl, div64 (by show (0 : Int) < (Int.gcd t bs[j] : Int); omega) (by show (Int.gcd t bs[j] : Int) < _; omega), (by show 2 <= sizeLine; decide), fun p hp => ?_⟩
  exact q p (t / (Int.gcd t bs[j] : Int), bs[j] / (Int.gcd t bs[j] : Int)) hp (frK_of hK hbm ht) (by
    have eb : cooB n bs = bs[j] := by
      unfold cooB
      rw [ej, Int.toNat_natCast, List.getD_eq_getElem?_getD, List.getElem?_eq_getElem hj]; rfl
    unfold cooT
    rw [<- et, eb])
end
end Mw
namespace Mw
open PySem L2
section
variable {P : Program} {w : World} {K : PySem.W.Frag} {mg : Str -> Option Value} {base : Heap} {f : Addr} {fd : FuncData} {nt bt C_Hand C_PlainHand C_Desk X_MendError X_NoFraction X_NoPoint X_NoSide X_NoRow X_NoTable X_NoText X_NotParted X_OneSide X_TooMany X_WrongBook : Addr}
theorem sc__law_written : FnScope ["_law_one"] ["_law_one"] (defScope (top 45)) := ⟨rfl, rfl, rfl, by decide +kernel, rfl, by decide +kernel, by decide +kernel⟩
theorem ok__law_written (F : Fun K "_law_written" "_law_written" (top 45) f fd) (T : Txt BN mg) : FnOk P w K mg base CX0 1 f fd ["_law_one"] (spWrit K) := by
  refine F.ok sc__law_written (fun vs H Q E h => ?_) (fun cdv A outer s H vs Q E hr h => ?_)
  · obtain ⟨p, f, rfl, _⟩ := h
    rfl
  obtain ⟨p, f, rfl, hP, hL, q⟩ := h
  refine ⟨_, (pss_cons (ps_if (pt_cmpR op_eq (pe_ix (ix_tupK (K := K) rfl) (pv 0) pe_int (fun _ _ => rfl)) pe_int (nomark _)) (pss_one (ps_ret (pe_callTy call_str_int rfl (T.nb "str" (by decide)) (by decide +kernel) (pa_cons (pe_ix (ix_tupK (K := K) rfl) (pv 0) pe_int (fun _ _ => rfl)) pa_nil)))) pss_nil)
      (pss_one (ps_ret (pe_op op_add_str (pe_op op_add_str (pe_callTy call_str_int rfl (T.nb "str" (by decide)) (by decide +kernel) (pa_cons (pe_ix (ix_tupK (K := K) rfl) (pv 0) pe_int (fun _ _ => rfl)) pa_nil)) pe_str) (pe_callTy call_str_int rfl (T.nb "str" (by decide)) (by decide +kernel) (pa_cons (pe_ix (ix_tupK (K := K) rfl) (pv 0) pe_int (fun _ _ => rfl)) pa_nil)))))), ?_⟩
  have hb := hL.bot
  have ht := hL.top
  have lg : ∀ t : Int, -9999 <= t /\ t <= 9999 -> t.natAbs.log2 < 1920 := fun t h => by
    have h1 : t.natAbs < 2 ^ 14 := by have : (2 : Nat) ^ 14 = 16384 := by decide
                                      omega
    by_cases z : t.natAbs = 0
    · rw [z]; decide
    · have := (Nat.log2_lt z).mpr h1
      omega
  refine ⟨_, rfl, p, _, _, _, rfl, rfl, hP, rfl, rfl, _, rfl, ?_⟩
  refine iteD (fun z => ?_) (fun z => ?_)
  · have z1 : f.2 = 1 := by injection z
    have e : written f = numTxt f.1 := by unfold written; rw [if_pos z1]
    rw [e] at q
    exact ⟨_, rfl, p, _, _, _, rfl, rfl, hP, rfl, f.1, rfl, lg _ ht, q⟩
  · have z1 : ¬ f.2 = 1 := fun y => z (by rw [y])
    have e : written f = numTxt f.1 ++ "/" ++ numTxt f.2 := by unfold written; rw [if_neg z1]
    rw [e] at q
    have n1 := num_len ht
    have n2 := num_len (t := f.2) (by omega)
    have n3 : ("/" : Str).length = 1 := by decide +kernel
    have n4 : (numTxt f.1 ++ "/").length = (numTxt f.1).length + 1 := by rw [<- cs_length, cs_append, List.length_append, cs_length, slash_cs]; rfl
    exact ⟨_, rfl, p, _, _, _, rfl, rfl, hP, rfl, f.1, rfl, lg _ ht, _, _, rfl, rfl, len1000 (by rw [n3]; show (numTxt f.1).length + 1 <= 1000; omega), _, rfl, p, _, _, _, rfl, rfl, hP, rfl, f.2, rfl, lg _ (by omega), _, _, rfl, rfl, len1000 (by show (numTxt f.1 ++ "/").length + (numTxt f.2).length <= 1000; omega), q⟩
end
end Mw
namespace Mw
open PySem L2
section
variable {P : Program} {w : World} {K : PySem.W.Frag} {mg : Str -> Option Value} {base : Heap} {f : Addr} {fd : FuncData} {nt bt C_Hand C_PlainHand C_Desk X_MendError X_NoFraction X_NoPoint X_NoSide X_NoRow X_NoTable X_NoText X_NotParted X_OneSide X_TooMany X_WrongBook : Addr}
theorem sc__law_line : FnScope ["_law_cell", "_law_wide", "_law_bottoms", "_law_most", "_law_numbers"] ["_law_cell", "_law_wide", "_law_bottoms", "_law_most"] (defScope (top 46)) := ⟨rfl, rfl, rfl, by decide +kernel, rfl, by decide +kernel, by decide +kernel⟩
theorem ok__law_line (F : Fun K "_law_line" "_law_line" (top 46) f fd) (T : Txt BN mg) (c__law_drawn : Cal P w K mg base 2 "_law_drawn" ["_law_cell", "_law_base", "_law_many"] spDrawnD) (c__law_coordinate : Cal P w K mg base 2 "_law_coordinate" ["_law_number", "_law_bottoms", "_law_most"] (spCooD K)) : FnOk P w K mg base CX0 3 f fd ["_law_cell", "_law_wide", "_law_bottoms", "_law_most"] (spLineD K) := by
  refine F.ok sc__law_line (fun vs H Q E h => ?_) (fun cdv A outer s H vs Q E hr h => ?_)
  · obtain ⟨c, mo, L, wd, a, bs, rfl, _⟩ := h
    rfl
  obtain ⟨c, mo, L, wd, a, bs, rfl, hA, hK, h1, h4, q⟩ := h
  refine ⟨_, (pss_cons (ps_set (i := 4) sc__law_line.nd rfl (Or.inl rfl) (pe_cal c__law_drawn (hr.mono (by decide)) rfl (pa_cons (pv 0) (pa_cons (pe_op op_mulB (pe_op op_mulB pe_int (pe_callB (call_lenK (K := K) rfl) rfl (T.nb "len" (by decide)) (by decide +kernel) (pa_cons (pv 2) pa_nil))) (pe_op op_add (pe_op op_mulB pe_int (pv 3)) pe_int)) (pa_cons (pe_op op_add (pv 1) pe_int) pa_nil)))))
      (pss_one (ps_ret (pe_tup (pa_cons (pe_op op_mod (pe_ix (ix_listK (K := K) rfl) (pv 4) pe_int (fun _ _ => rfl)) pe_int) (pa_cons (pe_comp (sc := defScope (top 46)) (N := ["_law_cell", "_law_wide", "_law_bottoms", "_law_most", "_law_numbers"]) (NB := ["_law_number", "_law_bottoms", "_law_most"]) (fr := [none, some 2, some 3]) rfl (by decide +kernel) (pi_list (pe_slice (sl_listK (K := K) rfl) (pv 4) (po_some pe_int) po_none)) (fun _ _ _ _ => (pg_name (i := 0) (show (["_law_number", "_law_bottoms", "_law_most"] : List Str).Nodup by decide +kernel) rfl (Or.inl rfl))) (fun _ _ _ _ => .nil) (fun _ _ _ _ => (pe_cal c__law_coordinate (hr.mono (by decide)) rfl (pa_cons (pv 0) (pa_cons (pv 1) (pa_cons (pv 2) pa_nil)))))) pa_nil)))))), ?_⟩
  have hm := hK.mo
  have hm0 := hK.m0
  obtain ⟨hne, hl4⟩ := hK.few
  have hlp : 0 < bs.length := List.length_pos_iff.mpr hne
  have hlm : (((bs.map V.int).length : Nat) : Int) = (bs.length : Int) := by rw [List.length_map]
  have hb1 : 2 * (bs.length : Int) * (2 * mo + 1) <= 8 * 2001 := Int.mul_le_mul (by omega) (by omega) (by omega) (by decide)
  have hb0 : 0 < 2 * (bs.length : Int) * (2 * mo + 1) := Int.mul_pos (by omega) (by omega)
  refine ⟨_, rfl, _, rfl, a, _, rfl, .inl hA, _, _, rfl, rfl, mul64 (by decide) (by decide) (by omega) (by omega), _, rfl, _, _, rfl, rfl, mul64 (by decide) (by decide) (by omega) (by omega), _, _, rfl, rfl, _, _, rfl, rfl, mul64 (by omega) (by omega) (by omega) (by omega), _, rfl, _, _, rfl, rfl, c, 2 * (bs.length : Int) * (2 * mo + 1), wd + 1, ?_, hb0, by omega, by omega, fun r H1 ds s1 hr0 hR hdl hdd eds => ?_⟩
  · rw [hlm]; rfl
  have hd0 : 0 < ds.length := by omega
  have hat : atI (ds.map V.int) 0 = some (.int ds[0]) := atI_nat (j := 0) (by rw [List.getElem?_map, List.getElem?_eq_getElem hd0]; rfl)
  refine ⟨_, rfl, r, _, _, _, rfl, rfl, SqL.of hR, hat, _, _, rfl, rfl, (by show (0 : Int) < 2; decide), ?_⟩
  refine ⟨_, rfl, _, rfl, r, _, rfl, SqL.of hR, fun p hp => ?_⟩
  rw [show cutV (ds.map V.int) (some 1) none = (ds.drop 1).map V.int from cut1 ds V.int]
  have s2 := Same.new hp (.lst ((ds.drop 1).map V.int))
  refine ⟨p, rfl, ⟨_, SqL.of upd_same⟩, fun D hD => ?_⟩
  have s12 := s1.trans s2
  refine comp_list_rel (xs := (ds.drop 1).map V.int) (fun H' i y => ∃ b, y = .ref b /\ ∃ f : Int × Int, b ≠ D /\ H b = none /\ H' b = some (.tup [.int f.1, .int f.2]) /\ FrK mo L f /\ ∃ n, (ds.drop 1)[i]? = some n /\ f = cooT n bs mo) (fun _ _ i y o ⟨b, e, f, h2, h0, h3, h5⟩ => ⟨b, e, f, h2, h0, o _ _ h2 h3, h5⟩) (SqL.of upd_same) (by rw [List.length_map, List.length_drop]; exact len1000 (by omega)) hD (fun i x H3 R hx s3 hD3 k => ?_) (fun ys H3 s3 hY hyl hys => ?_)
  · obtain ⟨n, hn, rfl⟩ := of_map hx
    have hnd := hdd n (List.mem_of_mem_drop (List.mem_of_getElem? hn))
    refine ⟨wk2 rfl rfl, ?_⟩
    refine ⟨_, rfl, _, rfl, _, rfl, n, mo, L, a, bs, rfl, hnd.1, by omega, (s12.trans s3).seq hA, hK, fun b f hb hf ef => ?_⟩
    exact k _ _ (Same.new hb _) ⟨b, rfl, f, fun z => hD3 (by rw [<- z]; exact hb), (by
      cases z : H b with
      | none => rfl
      | some o => rw [(s12.trans s3) _ _ z] at hb; cases hb), upd_same, hf, n, hn, ef⟩
  · obtain ⟨as, rfl, has⟩ := refs_of hys
    rw [List.length_map, List.length_map, List.length_drop] at hyl
    obtain ⟨fs, hp1, hp2, efs⟩ : ∃ fs : List (Int × Int), Paired (fun b (f : Int × Int) => H b = none /\ H3 b = some (.tup [.int f.1, .int f.2])) as fs /\ (∀ f ∈ fs, FrK mo L f) /\ fs = (ds.drop 1).map (fun n => cooT n bs mo) := by
      refine ⟨_, paired_of_get (by rw [List.length_map, List.length_drop]; exact hyl) fun j b f hb hf => ?_, fun f hf => ?_, rfl⟩
      · obtain ⟨g, _, h0, h3, _, n, hn, eg⟩ := has j b hb
        rw [List.getElem?_map, hn] at hf
        have : cooT n bs mo = f := by simpa using hf
        rw [<- this, <- eg]
        exact ⟨h0, h3⟩
      · obtain ⟨j, hj⟩ := List.getElem?_of_mem hf
        have hjl : j < as.length := by
          have := (List.getElem?_eq_some_iff.mp hj).1
          rw [List.length_map, List.length_drop] at this
          omega
        obtain ⟨g, _, _, _, h4, n, hn, eg⟩ := has j _ (List.getElem?_eq_getElem hjl)
        rw [List.getElem?_map, hn] at hj
        have : cooT n bs mo = f := by simpa using hj
        rw [<- this, <- eg]
        exact h4
    have hfl : fs.length = wd := by rw [<- Paired.length hp1]; omega
    refine ⟨(by show 2 <= sizeLine; decide), fun t ht => ?_⟩
    have s4 := Same.new ht (.tup [.int (ds[0] % 2), .ref D])
    have sA := s12.trans (s3.trans s4)
    have hn : ∀ {b}, H3 b = none -> H b = none := fun {b} h => by
      cases z : H b with
      | none => rfl
      | some o => rw [(s12.trans s3) _ _ z] at h; cases h
    have hDn : H D = none := by
      cases z : H D with
      | none => rfl
      | some o => rw [s12 _ _ z] at hD; cases hD
    refine q t (ds[0] % 2, fs) _ sA ⟨D, as, hn ht, hDn, upd_same, s4 _ _ hY, Paired.mapP hp1 fun _ _ z => ⟨z.1, s4 _ _ z.2⟩⟩ ⟨?_, hfl, hp2⟩ (by
      unfold lineT
      rw [<- eds, <- efs, List.getD_eq_getElem?_getD, List.getElem?_eq_getElem hd0]; rfl)
    show ds[0] % 2 = 0 \/ ds[0] % 2 = 1
    omega
end
end Mw
namespace Mw
open PySem L2
section
variable {P : Program} {w : World} {K : PySem.W.Frag} {mg : Str -> Option Value} {base : Heap} {f : Addr} {fd : FuncData} {nt bt C_Hand C_PlainHand C_Desk X_MendError X_NoFraction X_NoPoint X_NoSide X_NoRow X_NoTable X_NoText X_NotParted X_OneSide X_TooMany X_WrongBook : Addr}
theorem sc__law_lines : FnScope ["_law_script", "_law_first", "_law_head", "_law_wide", "_law_kinds", "_law_bottoms", "_law_most", "_law_cells"] ["_law_script", "_law_first"] (defScope (top 47)) := ⟨rfl, rfl, rfl, by decide +kernel, rfl, by decide +kernel, by decide +kernel⟩
theorem ok__law_lines (F : Fun K "_law_lines" "_law_lines" (top 47) f fd) (T : Txt BN mg) (c__law_cell_at : Cal P w K mg base 1 "_law_cell_at" ["_law_script", "_law_k"] (spCell K)) (c__law_mixed : Cal P w K mg base 1 "_law_mixed" ["_law_cell", "_law_k"] spMixD) (c__law_line : Cal P w K mg base 3 "_law_line" ["_law_cell", "_law_wide", "_law_bottoms", "_law_most"] (spLineD K)) : FnOk P w K mg base CX0 4 f fd ["_law_script", "_law_first"] (spLinesD K) := by
  refine F.ok sc__law_lines (fun vs H Q E h => ?_) (fun cdv A outer s H vs Q E hr h => ?_)
  · obtain ⟨a, ns, k, rfl, _⟩ := h
    rfl
  obtain ⟨a, ns, k, rfl, hk, hA, hl, q⟩ := h
  refine' ⟨_, ?body, ?_⟩
  case body =>
    refine' pss_cons ?s ?r
    case s => exact (ps_set (i := 2) sc__law_lines.nd rfl (Or.inl rfl) (pe_cal c__law_mixed (hr.mono (by decide)) rfl (pa_cons (pe_cal c__law_cell_at (hr.mono (by decide)) rfl (pa_cons (pv 0) (pa_cons (pv 1) pa_nil))) (pa_conE pe_int pa_nil))))
    case r =>
      refine' pss_cons ?s ?r
      case s => exact (ps_join (ps_set (i := 3) sc__law_lines.nd rfl (Or.inr rfl) (pe_op op_add pe_int (pe_op op_mod (pv 2) pe_int))))
      case r =>
        refine' pss_cons ?s ?r
        case s =>
          refine' @ps_set _ _ 4 "_law_kinds" _ _ _ sc__law_lines.nd rfl (Or.inl rfl) ?e ?hs ?hf
          case hs => rfl
          case hf => exact .inl rfl
          case e =>
            refine' pe_lst ?l
            case l =>
              refine' pa_tupE ?x ?y
              case x => exact (pe_tup (pa_lstE (pe_lst (pa_conE pe_int pa_nil)) (pa_conE pe_int pa_nil)))
              case y =>
                refine' pa_tupE ?x ?y
                case x => exact (pe_tup (pa_lstE (pe_lst (pa_conE pe_int pa_nil)) (pa_conE pe_int pa_nil)))
                case y =>
                  refine' pa_tupE ?x ?y
                  case x => exact (pe_tup (pa_lstE (pe_lst (pa_conE pe_int (pa_conE pe_int (pa_conE pe_int (pa_conE pe_int pa_nil))))) (pa_conE pe_int pa_nil)))
                  case y =>
                    refine' pa_tupE ?x ?y
                    case x => exact (pe_tup (pa_lstE (pe_lst (pa_conE pe_int (pa_conE pe_int (pa_conE pe_int pa_nil)))) (pa_conE pe_int pa_nil)))
                    case y =>
                      refine' pa_tupE ?x ?y
                      case x => exact (pe_tup (pa_lstE (pe_lst (pa_conE pe_int (pa_conE pe_int (pa_conE pe_int pa_nil)))) (pa_conE pe_int pa_nil)))
                      case y =>
                        refine' pa_tupE ?x ?y
                        case x => exact (pe_tup (pa_lstE (pe_lst (pa_conE pe_int (pa_conE pe_int (pa_conE pe_int pa_nil)))) (pa_conE pe_int pa_nil)))
                        case y =>
                          exact pa_nil
        case r =>
          refine' pss_cons ?s ?r
          case s => exact (ps_join (ps_asg (pe_ix (ix_listK (K := K) rfl) (pv 4) (pe_op op_mod (pe_op op_fdivP (pv 2) pe_int) pe_int) (fun _ _ => rfl)) (pg_tupK (K := K) (n := 2) rfl rfl (pgs_cons (pg_name (i := 5) sc__law_lines.nd rfl (Or.inr rfl)) (pgs_cons (pg_name (i := 6) sc__law_lines.nd rfl (Or.inr rfl)) pgs_nil)))))
          case r =>
            refine' pss_cons ?s ?r
            case s => exact (ps_set (i := 7) sc__law_lines.nd rfl (Or.inl rfl) (pe_op op_cat (pe_lst (pa_cons (pe_cal c__law_cell_at (hr.mono (by decide)) rfl (pa_cons (pv 0) (pa_cons (pe_op op_add (pv 1) pe_int) pa_nil))) pa_nil)) (pe_slice (sl_listK (K := K) rfl) (pv 0) (po_some (pe_op op_add (pv 1) pe_int)) (po_some (pe_op op_add (pv 1) pe_int)))))
            case r =>
              refine' pss_one ?s
              case s => exact (ps_ret (pe_comp (sc := defScope (top 47)) (N := ["_law_script", "_law_first", "_law_head", "_law_wide", "_law_kinds", "_law_bottoms", "_law_most", "_law_cells"]) (NB := ["_law_cell", "_law_wide", "_law_bottoms", "_law_most"]) (fr := [none, some 3, some 5, some 6]) rfl (by decide +kernel) (pi_list (pv 7)) (fun _ _ _ _ => (pg_name (i := 0) (show (["_law_cell", "_law_wide", "_law_bottoms", "_law_most"] : List Str).Nodup by decide +kernel) rfl (Or.inl rfl))) (fun _ _ _ _ => .nil) (fun _ _ _ _ => (pe_cal c__law_line (hr.mono (by decide)) rfl (pa_cons (pv 0) (pa_cons (pv 1) (pa_cons (pv 2) (pa_cons (pv 3) pa_nil))))))))
  refine ⟨_, rfl, _, rfl, a, ns, k, rfl, hA, by omega, _, 50, rfl, by decide, by decide, ?_⟩
  generalize hzz : mixT (cellF ns (k : Int).toNat) 50 = z
  refine ⟨fun σ H' => ∃ wd : Nat, σ = [some (.ref a), some (.int k), some (.int z), some (.int wd), none, none, none, none] /\ H' = H /\ 1 <= wd /\ wd <= 4 /\ wd = (1 + z % 4).toNat, ?_, ?_⟩
  · have q4 : 0 <= z % 4 /\ z % 4 < 4 := ⟨Int.emod_nonneg _ (by decide), Int.emod_lt_of_pos _ (by decide)⟩
    refine ⟨_, rfl, _, _, rfl, rfl, (by show (0 : Int) < 4; decide), _, _, rfl, rfl, (1 + z % 4).toNat, ?_, rfl, by omega, by omega, rfl⟩
    rw [Int.toNat_of_nonneg (by omega)]; rfl
  rintro σ H1 ⟨wd, rfl, eH, w1, w4, ewd⟩
  cases eH
  refine ⟨(by show 1 <= sizeLine; decide), fun l1 hl1 => ?_⟩
  have sa1 := Same.new hl1 (.lst [.int 1])
  refine ⟨(by show 2 <= sizeLine; decide), fun p1 hp1 => ?_⟩
  have sb1 := Same.new hp1 (.tup [.ref l1, .int 1000])
  have fl1 := sb1 _ _ (show upd H l1 (.lst [.int 1]) l1 = some (.lst [.int 1]) from upd_same)
  have fp1 : upd (upd H l1 (.lst [.int 1])) p1 (.tup [.ref l1, .int 1000]) p1 = some (.tup [.ref l1, .int 1000]) := upd_same
  have st1 := sa1.trans sb1
  generalize upd (upd H l1 (.lst [.int 1])) p1 (.tup [.ref l1, .int 1000]) = G1 at *
  refine ⟨(by show 1 <= sizeLine; decide), fun l2 hl2 => ?_⟩
  have sa2 := Same.new hl2 (.lst [.int 1])
  refine ⟨(by show 2 <= sizeLine; decide), fun p2 hp2 => ?_⟩
  have sb2 := Same.new hp2 (.tup [.ref l2, .int 5])
  have fl2 := sb2 _ _ (show upd G1 l2 (.lst [.int 1]) l2 = some (.lst [.int 1]) from upd_same)
  have fp2 : upd (upd G1 l2 (.lst [.int 1])) p2 (.tup [.ref l2, .int 5]) p2 = some (.tup [.ref l2, .int 5]) := upd_same
  have st2 := sa2.trans sb2
  generalize upd (upd G1 l2 (.lst [.int 1])) p2 (.tup [.ref l2, .int 5]) = G2 at *
  refine ⟨(by show 4 <= sizeLine; decide), fun l3 hl3 => ?_⟩
  have sa3 := Same.new hl3 (.lst [.int 1, .int 1, .int 2, .int 3])
  refine ⟨(by show 2 <= sizeLine; decide), fun p3 hp3 => ?_⟩
  have sb3 := Same.new hp3 (.tup [.ref l3, .int 100])
  have fl3 := sb3 _ _ (show upd G2 l3 (.lst [.int 1, .int 1, .int 2, .int 3]) l3 = some (.lst [.int 1, .int 1, .int 2, .int 3]) from upd_same)
  have fp3 : upd (upd G2 l3 (.lst [.int 1, .int 1, .int 2, .int 3])) p3 (.tup [.ref l3, .int 100]) p3 = some (.tup [.ref l3, .int 100]) := upd_same
  have st3 := sa3.trans sb3
  generalize upd (upd G2 l3 (.lst [.int 1, .int 1, .int 2, .int 3])) p3 (.tup [.ref l3, .int 100]) = G3 at *
  refine ⟨(by show 3 <= sizeLine; decide), fun l4 hl4 => ?_⟩
  have sa4 := Same.new hl4 (.lst [.int 1, .int 5, .int 9])
  refine ⟨(by show 2 <= sizeLine; decide), fun p4 hp4 => ?_⟩
  have sb4 := Same.new hp4 (.tup [.ref l4, .int 22])
  have fl4 := sb4 _ _ (show upd G3 l4 (.lst [.int 1, .int 5, .int 9]) l4 = some (.lst [.int 1, .int 5, .int 9]) from upd_same)
  have fp4 : upd (upd G3 l4 (.lst [.int 1, .int 5, .int 9])) p4 (.tup [.ref l4, .int 22]) p4 = some (.tup [.ref l4, .int 22]) := upd_same
  have st4 := sa4.trans sb4
  generalize upd (upd G3 l4 (.lst [.int 1, .int 5, .int 9])) p4 (.tup [.ref l4, .int 22]) = G4 at *
  refine ⟨(by show 3 <= sizeLine; decide), fun l5 hl5 => ?_⟩
  have sa5 := Same.new hl5 (.lst [.int 7, .int 8, .int 1])
  refine ⟨(by show 2 <= sizeLine; decide), fun p5 hp5 => ?_⟩
  have sb5 := Same.new hp5 (.tup [.ref l5, .int 17])
  have fl5 := sb5 _ _ (show upd G4 l5 (.lst [.int 7, .int 8, .int 1]) l5 = some (.lst [.int 7, .int 8, .int 1]) from upd_same)
  have fp5 : upd (upd G4 l5 (.lst [.int 7, .int 8, .int 1])) p5 (.tup [.ref l5, .int 17]) p5 = some (.tup [.ref l5, .int 17]) := upd_same
  have st5 := sa5.trans sb5
  generalize upd (upd G4 l5 (.lst [.int 7, .int 8, .int 1])) p5 (.tup [.ref l5, .int 17]) = G5 at *
  refine ⟨(by show 3 <= sizeLine; decide), fun l6 hl6 => ?_⟩
  have sa6 := Same.new hl6 (.lst [.int 1, .int 4, .int 6])
  refine ⟨(by show 2 <= sizeLine; decide), fun p6 hp6 => ?_⟩
  have sb6 := Same.new hp6 (.tup [.ref l6, .int 83])
  have fl6 := sb6 _ _ (show upd G5 l6 (.lst [.int 1, .int 4, .int 6]) l6 = some (.lst [.int 1, .int 4, .int 6]) from upd_same)
  have fp6 : upd (upd G5 l6 (.lst [.int 1, .int 4, .int 6])) p6 (.tup [.ref l6, .int 83]) p6 = some (.tup [.ref l6, .int 83]) := upd_same
  have st6 := sa6.trans sb6
  generalize upd (upd G5 l6 (.lst [.int 1, .int 4, .int 6])) p6 (.tup [.ref l6, .int 83]) = G6 at *
  refine ⟨(by show 6 <= sizeLine; decide), fun kl hkl => ?_⟩
  have sk := Same.new hkl (.lst [.ref p1, .ref p2, .ref p3, .ref p4, .ref p5, .ref p6])
  have fk : upd G6 kl (.lst [.ref p1, .ref p2, .ref p3, .ref p4, .ref p5, .ref p6]) kl = some (.lst [.ref p1, .ref p2, .ref p3, .ref p4, .ref p5, .ref p6]) := upd_same
  generalize upd G6 kl (.lst [.ref p1, .ref p2, .ref p3, .ref p4, .ref p5, .ref p6]) = G7 at *
  have e1 := (st2.trans (st3.trans (st4.trans (st5.trans (st6.trans sk))))) _ _ fl1
  have d1 := (st2.trans (st3.trans (st4.trans (st5.trans (st6.trans sk))))) _ _ fp1
  have e2 := (st3.trans (st4.trans (st5.trans (st6.trans sk)))) _ _ fl2
  have d2 := (st3.trans (st4.trans (st5.trans (st6.trans sk)))) _ _ fp2
  have e3 := (st4.trans (st5.trans (st6.trans sk))) _ _ fl3
  have d3 := (st4.trans (st5.trans (st6.trans sk))) _ _ fp3
  have e4 := (st5.trans (st6.trans sk)) _ _ fl4
  have d4 := (st5.trans (st6.trans sk)) _ _ fp4
  have e5 := (st6.trans sk) _ _ fl5
  have d5 := (st6.trans sk) _ _ fp5
  have e6 := sk _ _ fl6
  have d6 := sk _ _ fp6
  have sAll := (st1.trans (st2.trans (st3.trans (st4.trans (st5.trans (st6.trans sk))))))
  have key : ∃ (pa ba : Addr) (bs : List Int) (mo L : Int), atI [V.ref p1, .ref p2, .ref p3, .ref p4, .ref p5, .ref p6] (z / 4 % 6) = some (.ref pa) /\ G7 pa = some (.tup [.ref ba, .int mo]) /\ G7 ba = some (.lst (bs.map V.int)) /\ KindOk bs mo L /\ kindT (z / 4 % 6) = (bs, mo) := by
    have q6 : 0 <= z / 4 % 6 /\ z / 4 % 6 < 6 := ⟨Int.emod_nonneg _ (by decide), Int.emod_lt_of_pos _ (by decide)⟩
    have : z / 4 % 6 = 0 \/ z / 4 % 6 = 1 \/ z / 4 % 6 = 2 \/ z / 4 % 6 = 3 \/ z / 4 % 6 = 4 \/ z / 4 % 6 = 5 := by omega
    rcases this with e | e | e | e | e | e <;> rw [e]
    · exact ⟨p1, l1, [1], 1000, 1, rfl, d1, e1, kindOk_1, rfl⟩
    · exact ⟨p2, l2, [1], 5, 1, rfl, d2, e2, kindOk_2, rfl⟩
    · exact ⟨p3, l3, [1, 1, 2, 3], 100, 6, rfl, d3, e3, kindOk_3, rfl⟩
    · exact ⟨p4, l4, [1, 5, 9], 22, 45, rfl, d4, e4, kindOk_4, rfl⟩
    · exact ⟨p5, l5, [7, 8, 1], 17, 56, rfl, d5, e5, kindOk_5, rfl⟩
    · exact ⟨p6, l6, [1, 4, 6], 83, 12, rfl, d6, e6, kindOk_6, rfl⟩
  refine ⟨fun σ H' => ∃ (ba : Addr) (bs : List Int) (mo L : Int), σ = [some (.ref a), some (.int k), some (.int z), some (.int wd), some (.ref kl), some (.ref ba), some (.int mo), none] /\ Same H H' /\ SqL K H' ba (bs.map V.int) /\ KindOk bs mo L /\ kindT (z / 4 % 6) = (bs, mo), ?_, ?_⟩
  · obtain ⟨pa, ba, bs, mo, L, hat, hpa, hba, hK, eK⟩ := key
    refine ⟨_, rfl, _, rfl, _, _, rfl, rfl, div64 (by decide) (by decide), _, _, rfl, rfl, (by show (0 : Int) < 6; decide), kl, _, _, _, rfl, rfl, SqL.of fk, hat, ?_⟩
    exact ⟨pa, _, rfl, SqT.of hpa, rfl, _, _, rfl, _, _, rfl, rfl, ba, bs, mo, L, rfl, sAll, SqL.of hba, hK, eK⟩
  rintro σ H1 ⟨ba, bs, mo, L, rfl, s1, hBa, hK, eK⟩
  refine ⟨_, rfl, _, rfl, _, _, rfl, rfl, a, ns, (k : Int) + 1, rfl, s1.seq hA, by omega, (by show 1 <= sizeLine; decide), fun l1 hl1 => ?_⟩
  have s2 := Same.new hl1 (.lst [.int (cellF ns ((k : Int) + 1).toNat)])
  refine ⟨_, rfl, _, rfl, _, _, rfl, rfl, _, rfl, _, rfl, _, _, rfl, rfl, _, rfl, a, _, rfl, (s1.trans s2).seq hA, fun l2 hl2 => ?_⟩
  rw [cutL_map]
  have s3 := Same.new hl2 (.lst ((cutL ns (some ((k : Int) + 2)) (some ((k : Int) + 31))).map V.int))
  have hcl : (cutL ns (some ((k : Int) + 2)) (some ((k : Int) + 31))).length <= 29 := by
    unfold cutL
    rw [show (k : Int) + 2 = ((k + 2 : Nat) : Int) by omega, show (k : Int) + 31 = ((k + 31 : Nat) : Int) by omega, HT.sIx_nat, HT.sIx_nat, List.length_take, List.length_drop]
    omega
  refine ⟨l1, l2, _, _, rfl, rfl, s3 _ _ upd_same, upd_same, len1000 (by rw [List.length_singleton, List.length_map]; omega), fun l3 hl3 => ?_⟩
  have e3 : [V.int (cellF ns ((k : Int) + 1).toNat)] ++ (cutL ns (some ((k : Int) + 2)) (some ((k : Int) + 31))).map V.int = (cellF ns ((k : Int) + 1).toNat :: cutL ns (some ((k : Int) + 2)) (some ((k : Int) + 31))).map V.int := rfl
  rw [e3]
  have hcs : (cellF ns ((k : Int) + 1).toNat :: cutL ns (some ((k : Int) + 2)) (some ((k : Int) + 31))).length <= 30 := by rw [List.length_cons]; omega
  have hcn : (cellF ns ((k : Int) + 1).toNat :: cutL ns (some ((k : Int) + 2)) (some ((k : Int) + 31))) ≠ [] := by simp
  generalize ecl : (cellF ns ((k : Int) + 1).toNat :: cutL ns (some ((k : Int) + 2)) (some ((k : Int) + 31))) = cl at *
  have s4 := Same.new hl3 (.lst (cl.map V.int))
  have s14 := s1.trans (s2.trans (s3.trans s4))
  have hBa4 := (s2.trans (s3.trans s4)).seq hBa
  refine ⟨_, rfl, l3, rfl, ⟨_, SqL.of upd_same⟩, fun D hD => ?_⟩
  refine comp_list_rel (xs := cl.map V.int) (fun H' i y => ∃ p, y = .ref p /\ ∃ l, (LnK wd mo L l /\ ∃ n, cl[i]? = some n /\ l = lineT n wd bs mo) /\ ∃ (c : Addr) (ps : List Addr), p ≠ D /\ c ≠ D /\ H' p = some (.tup [.int l.1, .ref c]) /\ H' c = some (.lst (ps.map V.ref)) /\ Paired (fun b (f : Int × Int) => b ≠ D /\ H' b = some (.tup [.int f.1, .int f.2])) ps l.2)
    (fun _ _ i y o ⟨p, e, l, h1, c, ps, h2, h3, h4, h5, h6⟩ => ⟨p, e, l, h1, c, ps, h2, h3, o _ _ h2 h4, o _ _ h3 h5, Paired.mapP h6 fun _ _ ⟨x, y⟩ => ⟨x, o _ _ x y⟩⟩) (SqL.of upd_same) (by rw [List.length_map]; exact len1000 (by omega)) hD (fun i x H3 R hx s5 hD3 kk => ?_) (fun ys H3 s5 hY hyl hys => ?_)
  · obtain ⟨n, hn, rfl⟩ := of_map hx
    refine ⟨wk3 rfl rfl rfl, ?_⟩
    refine ⟨_, rfl, _, rfl, _, rfl, _, rfl, n, mo, L, wd, ba, bs, rfl, s5.seq hBa4, hK, w1, w4, fun p l H4 s6 hNew hLn eln => ?_⟩
    obtain ⟨c, ps, n1, n2, n3, n4, n5⟩ := hNew
    exact kk _ _ s6 ⟨p, rfl, l, ⟨hLn, n, hn, eln⟩, c, ps, fun y => hD3 (by rw [<- y]; exact n1), fun y => hD3 (by rw [<- y]; exact n2), n3, n4, Paired.mapP n5 fun _ _ ⟨x, y⟩ => ⟨fun w => hD3 (by rw [<- w]; exact x), y⟩⟩
  · obtain ⟨as, rfl, has⟩ := refs_of hys
    rw [List.length_map, List.length_map] at hyl
    obtain ⟨ls, hp1, hp2, els⟩ : ∃ ls : List Ln, LnsAt K H3 as ls /\ (∀ l ∈ ls, LnK wd mo L l) /\ ls = cl.map fun n => lineT n wd bs mo := by
      refine ⟨_, paired_of_get (by rw [List.length_map]; exact hyl) fun j p l hp hl' => ?_, fun l hl' => ?_, rfl⟩
      · obtain ⟨g, ⟨_, n, hn, eg⟩, c, ps, _, _, g2, g3, g4⟩ := has j p hp
        rw [List.getElem?_map, hn] at hl'
        have : lineT n wd bs mo = l := by simpa using hl'
        rw [<- this, <- eg]
        exact ⟨c, SqT.of g2, ps, SqL.of g3, Paired.mapP g4 fun _ _ z => SqT.of z.2⟩
      · obtain ⟨j, hj⟩ := List.getElem?_of_mem hl'
        have hjl : j < as.length := by
          have := (List.getElem?_eq_some_iff.mp hj).1
          rw [List.length_map] at this
          omega
        obtain ⟨g, ⟨h4, n, hn, eg⟩, _⟩ := has j _ (List.getElem?_eq_getElem hjl)
        rw [List.getElem?_map, hn] at hj
        have : lineT n wd bs mo = l := by simpa using hj
        rw [<- this, <- eg]
        exact h4
    have hll : ls.length = cl.length := by rw [<- Paired.length hp1]; exact hyl
    have hDn : H D = none := by
      cases y : H D with
      | none => rfl
      | some o => rw [s14 _ _ y] at hD; cases hD
    have hmo := hK.mo
    have hL0 := hK.pos
    refine q D as ls H3 (s14.trans s5) hDn hY hp1 ⟨fun y => ?_, by omega, wd, mo, L, w1, w4, hL0, ?_, hK.m0, hK.all, hp2⟩ ?_
    · rw [y] at hll
      exact hcn (List.length_eq_zero_iff.mp hll.symm)
    · exact hK.big
    · rw [els]
      unfold linesT
      rw [Int.toNat_natCast] at hzz
      rw [hzz, eK, ecl, <- ewd]
end
end Mw
namespace Mw
open PySem L2
section
variable {P : Program} {w : World} {K : PySem.W.Frag} {mg : Str -> Option Value} {base : Heap} {f : Addr} {fd : FuncData} {nt bt C_Hand C_PlainHand C_Desk X_MendError X_NoFraction X_NoPoint X_NoSide X_NoRow X_NoTable X_NoText X_NotParted X_OneSide X_TooMany X_WrongBook : Addr}
theorem sc__law_unit : FnScope ["_law_lines_here", "_law_unit_here", "_law_side", "_law_sizes", "_law_top", "_law_bottom"] ["_law_lines_here"] (defScope (top 48)) := ⟨rfl, rfl, rfl, by decide +kernel, rfl, by decide +kernel, by decide +kernel⟩
theorem ok__law_unit (F : Fun K "_law_unit" "_law_unit" (top 48) f fd) (T : Txt BN mg) (c__law_factor : Cal P w K mg base 1 "_law_factor" ["_law_one", "_law_other"] spFac) : FnOk P w K mg base CX0 2 f fd ["_law_lines_here"] (spUnitG K) := by
  refine F.ok sc__law_unit (fun vs H Q E h => ?_) (fun cdv A outer s H vs Q E hr h => ?_)
  · obtain ⟨a, as, ls, rfl, _⟩ := h
    rfl
  obtain ⟨a, as, ls, rfl, hA, hL, hO, q⟩ := h
  refine ⟨_, (pss_cons (ps_set (i := 1) sc__law_unit.nd rfl (Or.inl rfl) pe_int)
      (pss_cons (ps_for PassesOwn.never rfl (pi_list (pv 0)) (pg_tupK (K := K) (n := 2) rfl rfl (pgs_cons (pg_name (i := 2) sc__law_unit.nd rfl (Or.inl rfl)) (pgs_cons (pg_name (i := 3) sc__law_unit.nd rfl (Or.inl rfl)) pgs_nil))) (pss_one (ps_for PassesOwn.never rfl (pi_list (pv 3)) (pg_tupK (K := K) (n := 2) rfl rfl (pgs_cons (pg_name (i := 4) sc__law_unit.nd rfl (Or.inl rfl)) (pgs_cons (pg_name (i := 5) sc__law_unit.nd rfl (Or.inl rfl)) pgs_nil))) (pss_one (ps_set (i := 1) sc__law_unit.nd rfl (Or.inl rfl) (pe_op op_fdivP (pe_op op_mulB (pv 1) (pv 5)) (pe_cal c__law_factor (hr.mono (by decide)) rfl (pa_cons (pv 1) (pa_cons (pv 5) pa_nil)))))))))
      (pss_one (ps_ret (pv 1))))), ?_⟩
  have hal : as.length = ls.length := Paired.length hL
  obtain ⟨wd, _, hln, _⟩ := hO.unit
  have hbot : ∀ l ∈ ls, ∀ f ∈ l.2, 0 < f.2 /\ f.2 <= 9 := fun l hl f hf => by have := ((hln l hl).low f hf).bot; omega
  refine ⟨_, rfl, a, rfl, ⟨_, hA⟩, ?_⟩
  refine for_list (xs := as.map V.ref) (fun i σ H' => ∃ v2 v3 v4 v5 : Option V, σ = [some (.ref a), some (.int (lcmF (((ls.take i).map (·.2)).flatten.map (·.2)))), v2, v3, v4, v5] /\ H' = H)
    ⟨none, none, none, none, rfl, rfl⟩ (fun i σ H' _ ⟨_, _, _, _, _, e⟩ => by rw [e]; exact hA) ?_ ?_
  · rintro i x σ H' hx ⟨v2, v3, v4, v5, rfl, rfl⟩
    obtain ⟨la, hla, rfl⟩ := of_map hx
    obtain ⟨l, hl, c, h1, ps, h2, h3⟩ := paired_get hL hla
    have hlm := List.mem_of_getElem? hl
    have hpl : ps.length = l.2.length := Paired.length h3
    refine ⟨la, _, rfl, h1, rfl, _, _, rfl, _, _, rfl, rfl, ?_⟩
    refine ⟨_, rfl, c, rfl, ⟨_, h2⟩, ?_⟩
    have hpre : OkB (((ls.take i).map (·.2)).flatten.map (·.2)) := fun b hb => by
      obtain ⟨f, hf, rfl⟩ := List.mem_map.mp hb
      obtain ⟨fs, hfs, hf⟩ := List.mem_flatten.mp hf
      obtain ⟨l', hl', rfl⟩ := List.mem_map.mp hfs
      exact hbot l' (List.mem_of_mem_take hl') f hf
    refine for_list (xs := ps.map V.ref) (fun j σ H'' => ∃ v4 v5 : Option V, σ = [some (.ref a), some (.int (lcmF (((ls.take i).map (·.2)).flatten.map (·.2) ++ (l.2.take j).map (·.2)))), some (.int l.1), some (.ref c), v4, v5] /\ H'' = H')
      ⟨v4, v5, by simp, rfl⟩ (fun j σ H'' _ ⟨_, _, _, e⟩ => by rw [e]; exact h2) ?_ ?_
    · rintro j y σ H'' hy ⟨v4, v5, rfl, rfl⟩
      obtain ⟨p, hp, rfl⟩ := of_map hy
      obtain ⟨f, hf, h4⟩ := paired_get h3 hp
      have hfm := List.mem_of_getElem? hf
      have hf9 := hbot l hlm f hfm
      have hob : OkB (((ls.take i).map (·.2)).flatten.map (·.2) ++ (l.2.take j).map (·.2)) := fun b hb => by
        rcases List.mem_append.mp hb with z | z
        · exact hpre b z
        · obtain ⟨g, hg, rfl⟩ := List.mem_map.mp z
          exact hbot l hlm g (List.mem_of_mem_take hg)
      have u0 := (lcm9 hob).1
      have u1 := lcm9_le hob
      refine ⟨p, _, rfl, h4, rfl, _, _, rfl, _, _, rfl, rfl, ?_⟩
      have hg : 0 < Int.gcd (lcmF (((ls.take i).map (·.2)).flatten.map (·.2) ++ (l.2.take j).map (·.2))) f.2 := Int.gcd_pos_of_ne_zero_right _ (by omega)
      have gl : Int.gcd (lcmF (((ls.take i).map (·.2)).flatten.map (·.2) ++ (l.2.take j).map (·.2))) f.2 <= f.2.natAbs := gcd_le_right (by omega)
      have gd : (Int.gcd (lcmF (((ls.take i).map (·.2)).flatten.map (·.2) ++ (l.2.take j).map (·.2))) f.2 : Int) ∣ f.2 := Int.gcd_dvd_right _ _
      refine ⟨_, rfl, _, rfl, _, _, rfl, rfl, mul64 (by omega) (by omega) (by omega) (by omega), _, rfl, _, rfl, _, f.2, rfl, by omega, _, _, rfl, rfl, div64 (by omega) (by omega), some (.int f.1), some (.int f.2), ?_, rfl⟩
      have e : ((ls.take i).map (·.2)).flatten.map (·.2) ++ (l.2.take (j + 1)).map (·.2) = (((ls.take i).map (·.2)).flatten.map (·.2) ++ (l.2.take j).map (·.2)) ++ [f.2] := by
        rw [List.take_add_one, hf, List.map_append, <- List.append_assoc]; rfl
      rw [e, lcmF_snoc, <- Int.mul_ediv_assoc _ gd]
      rfl
    · rintro σ H'' ⟨v4, v5, rfl, rfl⟩
      refine ⟨some (.int l.1), some (.ref c), v4, v5, ?_, rfl⟩
      have e : ((ls.take (i + 1)).map (·.2)).flatten.map (·.2) = ((ls.take i).map (·.2)).flatten.map (·.2) ++ (l.2.take (ps.map V.ref).length).map (·.2) := by
        rw [List.length_map, hpl, List.take_length, List.take_add_one, hl, List.map_append, List.flatten_append, List.map_append]
        simp
      rw [e]
  · rintro σ H' ⟨v2, v3, v4, v5, rfl, rfl⟩
    rw [List.length_map, hal, List.take_length]
    exact ⟨_, rfl, q⟩
end
end Mw
namespace Mw
open PySem L2
section
variable {P : Program} {w : World} {K : PySem.W.Frag} {mg : Str -> Option Value} {base : Heap} {f : Addr} {fd : FuncData} {nt bt C_Hand C_PlainHand C_Desk X_MendError X_NoFraction X_NoPoint X_NoSide X_NoRow X_NoTable X_NoText X_NotParted X_OneSide X_TooMany X_WrongBook : Addr}
theorem sc__law_rows : FnScope ["_law_lines_here", "_law_unit_here"] ["_law_lines_here"] (defScope (top 49)) := ⟨rfl, rfl, rfl, by decide +kernel, rfl, by decide +kernel, by decide +kernel⟩
theorem ok__law_rows (F : Fun K "_law_rows" "_law_rows" (top 49) f fd) (T : Txt BN mg) (c__law_unit : Cal P w K mg base 2 "_law_unit" ["_law_lines_here"] (spUnitG K)) : FnOk P w K mg base CX0 3 f fd ["_law_lines_here"] (spRowsG K) := by
  refine F.ok sc__law_rows (fun vs H Q E h => ?_) (fun cdv A outer s H vs Q E hr h => ?_)
  · obtain ⟨a, as, ls, rfl, _⟩ := h
    rfl
  obtain ⟨a, as, ls, rfl, hA, hL, hO, q⟩ := h
  refine ⟨_, (pss_cons (ps_set (i := 1) sc__law_rows.nd rfl (Or.inr rfl) (pe_cal c__law_unit (hr.mono (by decide)) rfl (pa_cons (pv 0) pa_nil)))
      (pss_one (ps_ret (pe_comp (sc := defScope (top 49)) (N := ["_law_lines_here", "_law_unit_here"]) (NB := ["_law_side", "_law_sizes", "_law_unit_here"]) (fr := [none, none, some 1]) rfl (by decide +kernel) (pi_list (pv 0)) (fun _ _ _ _ => (pg_tupK (K := K) (n := 2) rfl rfl (pgs_cons (pg_name (i := 0) (show (["_law_side", "_law_sizes", "_law_unit_here"] : List Str).Nodup by decide +kernel) rfl (Or.inl rfl)) (pgs_cons (pg_name (i := 1) (show (["_law_side", "_law_sizes", "_law_unit_here"] : List Str).Nodup by decide +kernel) rfl (Or.inl rfl)) pgs_nil)))) (fun _ _ _ _ => .nil) (fun _ _ _ _ => (pe_tup (pa_cons (pe_callTy (call_tupleK (K := K) rfl) rfl (T.nb "tuple" (by decide)) (by decide +kernel) (pa_cons (pe_compN (NB := ["_law_top", "_law_bottom", "_law_unit_here"]) (fr := [none, none, some 2]) rfl (of_decide_eq_true (by kernel_rfl)) (pi_listK (K := K) rfl (pv 1)) (fun _ _ _ _ => (pg_tupK (K := K) (n := 2) rfl rfl (pgs_cons (pg_name (i := 0) (show (["_law_top", "_law_bottom", "_law_unit_here"] : List Str).Nodup by decide +kernel) rfl (Or.inl rfl)) (pgs_cons (pg_name (i := 1) (show (["_law_top", "_law_bottom", "_law_unit_here"] : List Str).Nodup by decide +kernel) rfl (Or.inl rfl)) pgs_nil)))) (fun _ _ _ _ => .nil) (fun _ _ _ _ => (pe_op op_fdivP (pe_op op_mulB (pv 0) (pv 2)) (pv 1)))) pa_nil)) (pa_cons (pv 0) pa_nil)))))))), ?_⟩
  have hal : as.length = ls.length := Paired.length hL
  obtain ⟨wd, w4, hln, u0, u1, ud⟩ := hO.unit
  have hf30 := hO.few
  refine ⟨_, rfl, a, as, ls, rfl, hA, hL, hO, ?_⟩
  refine ⟨_, rfl, a, rfl, ⟨_, hA⟩, fun D hD => ?_⟩
  refine comp_list_rel (xs := as.map V.ref) (fun H' i y => ∃ p, y = .ref p /\ ∃ (l : Ln) (tp : Addr), ls[i]? = some l /\ p ≠ D /\ tp ≠ D /\ H' p = some (.tup [.ref tp, .int l.1]) /\ H' tp = some (.tup ((l.2.map (inU (unitF (ls.map (·.2))))).map V.int)))
    (fun _ _ i y o ⟨p, e, l, tp, h1, h2, h3, h4, h5⟩ => ⟨p, e, l, tp, h1, h2, h3, o _ _ h2 h4, o _ _ h3 h5⟩) hA (by rw [List.length_map]; exact len1000 (by omega)) hD (fun i x H3 R hx s3 hD3 k => ?_) (fun ys H3 s3 hY hyl hys => ?_)
  · obtain ⟨la, hla, rfl⟩ := of_map hx
    obtain ⟨l, hl, c, h1, ps, h2, h3⟩ := paired_get hL hla
    have hlm := List.mem_of_getElem? hl
    have hpl : ps.length = l.2.length := Paired.length h3
    have hc4 := (hln l hlm).cnt
    refine ⟨la, _, rfl, s3.seqT h1, rfl, _, _, rfl, _, _, rfl, rfl, wk02 rfl, ?_⟩
    refine ⟨_, rfl, c, rfl, ⟨_, s3.seq h2⟩, fun D2 hD2 => ?_⟩
    refine comp_list_rel (xs := ps.map V.ref) (fun _ j y => ∃ f, l.2[j]? = some f /\ y = .int (inU (unitF (ls.map (·.2))) f)) (fun _ _ _ _ _ h => h) (s3.seq h2) (by rw [List.length_map]; exact len1000 (by omega)) hD2 (fun j x H4 R hx s4 _ k2 => ?_) (fun zs H4 s4 hZ hzl hzs => ?_)
    · obtain ⟨p, hp, rfl⟩ := of_map hx
      obtain ⟨f, hf, h4⟩ := paired_get h3 hp
      have fk := (hln l hlm).low f (List.mem_of_getElem? hf)
      have hb := fk.bot
      have ht := fk.top
      have hd := ud l hlm f (List.mem_of_getElem? hf)
      refine ⟨p, _, rfl, (s3.trans s4).seqT h4, rfl, _, _, rfl, _, _, rfl, rfl, wk02 rfl, ?_⟩
      refine ⟨_, rfl, _, rfl, _, _, rfl, rfl, mul64 (by omega) (by omega) (by omega) (by omega), _, rfl, _, _, rfl, rfl, div64 (by omega) (by omega), ?_⟩
      refine k2 _ H4 (Same.refl _) ⟨f, hf, ?_⟩
      show V.int (f.1 * unitF (ls.map (·.2)) / f.2) = V.int (f.1 * (unitF (ls.map (·.2)) / f.2))
      rw [Int.mul_ediv_assoc _ hd]
    · have ez : zs = (l.2.map (inU (unitF (ls.map (·.2))))).map V.int := by
        rw [List.map_map]
        refine ys_map (by rw [hzl, List.length_map, hpl]) fun j y f hy hf => ?_
        obtain ⟨f', hf', e⟩ := hzs j y hy
        rw [hf] at hf'
        cases hf'
        exact e
      rw [ez] at hZ
      refine ⟨D2, _, rfl, .inl ⟨SqL.of hZ, fun tp htp => ?_⟩⟩
      have s5 := Same.new htp (.tup ((l.2.map (inU (unitF (ls.map (·.2))))).map V.int))
      refine ⟨_, rfl, (by show 2 <= sizeLine; decide), fun p hp => ?_⟩
      have s6 := Same.new hp (.tup [.ref tp, .int l.1])
      have n1 : ∀ {b}, H4 b = none -> b ≠ D := fun {b} h z => by
        rw [z] at h
        cases e : H3 D with
        | none => exact hD3 e
        | some o => rw [s4 _ _ e] at h; cases h
      have hp4 : H4 p = none := by
        cases e : H4 p with
        | none => rfl
        | some o => rw [s5 _ _ e] at hp; cases hp
      exact k _ _ (s4.trans (s5.trans s6)) ⟨p, rfl, l, tp, hl, n1 hp4, n1 htp, upd_same, s6 _ _ upd_same⟩
  · obtain ⟨ps, rfl, hps⟩ := refs_of hys
    rw [List.length_map, List.length_map] at hyl
    refine q D ps H3 s3 hD hY (paired_of_get (by unfold rowsL; rw [List.length_map]; omega) fun j p r hp hr => ?_)
    obtain ⟨l, tp, g1, _, _, g4, g5⟩ := hps j p hp
    unfold rowsL at hr
    rw [List.getElem?_map, g1] at hr
    have : (l.2.map (inU (unitF (ls.map (·.2)))), l.1) = r := by simpa using hr
    rw [<- this]
    exact ⟨tp, SqT.of g4, SqT.of g5⟩
end
end Mw
namespace Mw
open PySem L2
section
variable {P : Program} {w : World} {K : PySem.W.Frag} {mg : Str -> Option Value} {base : Heap} {f : Addr} {fd : FuncData} {nt bt C_Hand C_PlainHand C_Desk X_MendError X_NoFraction X_NoPoint X_NoSide X_NoRow X_NoTable X_NoText X_NotParted X_OneSide X_TooMany X_WrongBook : Addr}
theorem sc__law_text : FnScope ["_law_lines_here"] ["_law_lines_here"] (defScope (top 50)) := ⟨rfl, rfl, rfl, by decide +kernel, rfl, by decide +kernel, by decide +kernel⟩
theorem ok__law_text (F : Fun K "_law_text" "_law_text" (top 50) f fd) (T : Txt BN mg) (c__law_written : Cal P w K mg base 1 "_law_written" ["_law_one"] (spWrit K)) : FnOk P w K mg base CX0 3 f fd ["_law_lines_here"] (spTextN K) := by
  refine F.ok sc__law_text (fun vs H Q E h => ?_) (fun cdv A outer s H vs Q E hr h => ?_)
  · obtain ⟨a, as, ls, rfl, _⟩ := h
    rfl
  obtain ⟨a, as, ls, rfl, hA, hL, hO, q⟩ := h
  refine ⟨_, (pss_one (ps_ret (pe_bmK (K := K) rfl PySem.F.plainAttrs_str PySem.F.slot_str_join PySem.F.type_str_join (mt_joinK (K := K) rfl) pe_str (pa_cons (pe_comp (sc := defScope (top 50)) (N := ["_law_lines_here"]) (NB := ["_law_side", "_law_sizes"]) (fr := [none, none]) rfl (by decide +kernel) (pi_list (pv 0)) (fun _ _ _ _ => (pg_tupK (K := K) (n := 2) rfl rfl (pgs_cons (pg_name (i := 0) (show (["_law_side", "_law_sizes"] : List Str).Nodup by decide +kernel) rfl (Or.inl rfl)) (pgs_cons (pg_name (i := 1) (show (["_law_side", "_law_sizes"] : List Str).Nodup by decide +kernel) rfl (Or.inl rfl)) pgs_nil)))) (fun _ _ _ _ => .nil) (fun _ _ _ _ => (pe_bmK (K := K) rfl PySem.F.plainAttrs_str PySem.F.slot_str_join PySem.F.type_str_join (mt_joinK (K := K) rfl) pe_str (pa_cons (pe_op op_cat (pe_lst (pa_cons (pe_callTy call_str_int rfl (T.nb "str" (by decide)) (by decide +kernel) (pa_cons (pv 0) pa_nil)) pa_nil)) (pe_compN (NB := ["_law_one"]) (fr := [none]) rfl (of_decide_eq_true (by kernel_rfl)) (pi_listK (K := K) rfl (pv 1)) (fun _ _ _ _ => (pg_name (i := 0) (show (["_law_one"] : List Str).Nodup by decide +kernel) rfl (Or.inl rfl))) (fun _ _ _ _ => .nil) (fun _ _ _ _ => (pe_cal c__law_written (hr.mono (by decide)) rfl (pa_cons (pv 0) pa_nil))))) pa_nil)))) pa_nil)))), ?_⟩
  obtain ⟨wd, mo, L, _, w4, _, _, _, _, hln⟩ := hO.ex
  have hf30 := hO.few
  have lg : ∀ t : Int, t = 0 \/ t = 1 -> t.natAbs.log2 < 1920 := fun t h => by rcases h with rfl | rfl <;> decide
  have jok : ∀ (c : Nat) (l : List Str), l.length <= 100 -> (∀ w ∈ l, w.length <= 200) -> JoinOk ⟨#[c]⟩ l = true := fun c l h1 h2 => by
    unfold JoinOk
    rw [StrLaws.joinFits h2 (by
      have h3 := Nat.mul_le_mul_right 200 h1
      have h4 : l.length * (⟨#[c]⟩ : Str).length = l.length * 1 := rfl
      rw [h4]; omega)]
    rfl
  refine ⟨rfl, ?_⟩
  refine ⟨_, rfl, a, rfl, ⟨_, hA⟩, fun D hD => ?_⟩
  refine comp_list_rel (xs := as.map V.ref) (fun _ i y => ∃ l, ls[i]? = some l /\ y = .str (lineTxt l)) (fun _ _ _ _ _ h => h) hA (by rw [List.length_map]; exact len1000 (by have := Paired.length hL; omega)) hD (fun i x H3 R hx s3 hD3 k => ?_) (fun ys H3 s3 hY hyl hys => ?_)
  · obtain ⟨la, hla, rfl⟩ := of_map hx
    obtain ⟨l, hl, c, h1, ps, h2, h3⟩ := paired_get hL hla
    have hlm := List.mem_of_getElem? hl
    have hk := hln l hlm
    have hpl : ps.length = l.2.length := Paired.length h3
    have hc4 := hk.cnt
    refine ⟨la, _, rfl, s3.seqT h1, rfl, _, _, rfl, _, _, rfl, rfl, wk_none (n := 2) rfl, ?_⟩
    refine ⟨rfl, ?_⟩
    refine ⟨_, rfl, l.1, rfl, lg _ hk.side, (by show 1 <= sizeLine; decide), fun l1 hl1 => ?_⟩
    have s4 := Same.new hl1 (.lst [.str (numTxt l.1)])
    refine ⟨_, rfl, c, rfl, ⟨_, (s3.trans s4).seq h2⟩, fun D2 hD2 => ?_⟩
    refine comp_list_rel (xs := ps.map V.ref) (fun _ j y => ∃ f, l.2[j]? = some f /\ y = .str (written f)) (fun _ _ _ _ _ h => h) ((s3.trans s4).seq h2) (by rw [List.length_map]; exact len1000 (by omega)) hD2 (fun j x H4 R hx s5 _ k2 => ?_) (fun zs H4 s5 hZ hzl hzs => ?_)
    · obtain ⟨p, hp, rfl⟩ := of_map hx
      obtain ⟨f, hf, h4⟩ := paired_get h3 hp
      refine ⟨wk_none (n := 1) rfl, ?_⟩
      exact ⟨_, rfl, p, f, rfl, (s3.trans (s4.trans s5)).seqT h4, (hk.fr f (List.mem_of_getElem? hf)).low, k2 _ H4 (Same.refl _) ⟨f, hf, rfl⟩⟩
    · have ez : zs = (l.2.map written).map V.str := by
        rw [List.map_map]
        refine ys_map (by rw [hzl, List.length_map, hpl]) fun j y f hy hf => ?_
        obtain ⟨f', hf', e⟩ := hzs j y hy
        rw [hf] at hf'
        cases hf'
        exact e
      rw [ez] at hZ
      have hl4 := s5 _ _ (show upd H3 l1 (.lst [.str (numTxt l.1)]) l1 = _ from upd_same)
      refine ⟨l1, D2, _, _, rfl, rfl, hl4, hZ, len1000 (by rw [List.length_map, List.length_map, List.length_singleton]; omega), fun l2 hl2 => ?_⟩
      have s6 := Same.new hl2 (.lst ([V.str (numTxt l.1)] ++ (l.2.map written).map V.str))
      refine ⟨_, l2, lineW l, rfl, rfl, SqL.of upd_same, ?_, ?_⟩
      · rw [sp_is]
        exact jok 32 _ (by unfold lineW; rw [List.length_cons, List.length_map]; omega) fun w hw => by have := word_len hk w hw; omega
      · rw [sp_is]
        exact k _ _ (s4.trans (s5.trans s6)) ⟨l, hl, rfl⟩
  · have ey : ys = (ls.map lineTxt).map V.str := by
      rw [List.map_map]
      refine ys_map (by rw [hyl, List.length_map]; exact Paired.length hL) fun j y l hy hl => ?_
      obtain ⟨l', hl', e⟩ := hys j y hy
      rw [hl] at hl'
      cases hl'
      exact e
    rw [ey] at hY
    refine ⟨_, D, ls.map lineTxt, rfl, rfl, SqL.of hY, ?_, ?_⟩
    · rw [nl_is]
      exact jok 10 _ (by rw [List.length_map]; omega) fun w hw => by
        obtain ⟨l, hl, rfl⟩ := List.mem_map.mp hw
        have := line_len (hln l hl) w4
        omega
    · rw [nl_is]
      exact q H3 s3
end
end Mw
namespace Mw
open PySem L2
section
variable {P : Program} {w : World} {K : PySem.W.Frag} {mg : Str -> Option Value} {base : Heap} {f : Addr} {fd : FuncData} {nt bt C_Hand C_PlainHand C_Desk X_MendError X_NoFraction X_NoPoint X_NoSide X_NoRow X_NoTable X_NoText X_NotParted X_OneSide X_TooMany X_WrongBook : Addr}
theorem sc__law_word : FnScope ["_law_number", "_law_some"] ["_law_number"] (defScope (top 51)) := ⟨rfl, rfl, rfl, by decide +kernel, rfl, by decide +kernel, by decide +kernel⟩
theorem ok__law_word (F : Fun K "_law_word" "_law_word" (top 51) f fd) (T : Txt BN mg) : FnOk P w K mg base CX0 1 f fd ["_law_number"] spSpW := by
  refine F.ok sc__law_word (fun vs H Q E h => ?_) (fun cdv A outer s H vs Q E hr h => ?_)
  · obtain ⟨n, rfl, _⟩ := h
    rfl
  obtain ⟨n, rfl, q⟩ := h
  refine' ⟨_, ?body, ?_⟩
  case body =>
    refine' pss_cons ?s ?r
    case s =>
      refine' @ps_set _ _ 1 "_law_some" _ _ _ sc__law_word.nd rfl (Or.inl rfl) ?e ?hs ?hf
      case hs => rfl
      case hf => exact .inl rfl
      case e => exact (@pe_lstD _ _ _ _ (da_str (da_str (da_str (da_str (da_str (da_str (da_str (da_str (da_str (da_str (da_str (da_str (da_str (da_str (da_str (da_str (da_str da_nil))))))))))))))))))
    case r =>
      refine' pss_cons ?s ?r
      case s =>
        refine' @ps_set _ _ 1 "_law_some" _ _ _ sc__law_word.nd rfl (Or.inl rfl) ?e ?hs ?hf
        case hs => rfl
        case hf => exact .inl rfl
        case e =>
          refine' pe_op op_cat ?x ?y
          case x => exact (pv 1)
          case y => exact (@pe_lstD _ _ _ _ (da_str (da_str (da_str (da_str (da_str (da_str (da_str (da_str (da_str (da_str (da_str (da_str (da_str da_nil))))))))))))))
      case r => exact (pss_one (ps_ret (pe_ix (ix_listK (K := K) rfl) (pv 1) (pe_op op_mod (pv 0) (pe_callB (call_lenK (K := K) rfl) rfl (T.nb "len" (by decide)) (by decide +kernel) (pa_cons (pv 1) pa_nil))) (fun _ _ => rfl))))
  refine ⟨(by show 17 <= sizeLine; decide), fun a ha => ?_⟩
  have s1 := Same.new ha (.lst (spoilA.map V.str))
  refine ⟨_, rfl, (by show 13 <= sizeLine; decide), fun b hb => ?_⟩
  have s2 := Same.new hb (.lst (spoilB.map V.str))
  have hA := s2 _ _ (show upd H a (.lst (spoilA.map V.str)) a = _ from upd_same)
  refine ⟨a, b, spoilA.map V.str, spoilB.map V.str, rfl, rfl, hA, upd_same, len1000 (by decide), fun c hc => ?_⟩
  have s3 := Same.new hc (.lst (spoilA.map V.str ++ spoilB.map V.str))
  have hlen : (((spoilA.map V.str ++ spoilB.map V.str).length : Nat) : Int) = 30 := by decide
  have m0 : 0 <= n % 30 := Int.emod_nonneg _ (by decide)
  have m1 : n % 30 < 30 := Int.emod_lt_of_pos _ (by decide)
  obtain ⟨j, ej⟩ : ∃ j : Nat, n % 30 = (j : Int) := ⟨(n % 30).toNat, by omega⟩
  have hj : j < (spoilA ++ spoilB).length := by show j < 30; omega
  have hat : atI (spoilA.map V.str ++ spoilB.map V.str) (n % (((spoilA.map V.str ++ spoilB.map V.str).length : Nat) : Int)) = some (.str (spoilA ++ spoilB)[j]) := by
    rw [hlen, ej, <- List.map_append]
    exact atI_nat (by rw [List.getElem?_map, List.getElem?_eq_getElem hj]; rfl)
  refine ⟨_, rfl, _, rfl, _, rfl, c, _, rfl, .inl (SqL.of upd_same), _, _, rfl, rfl, (by rw [hlen]; show (0 : Int) < 30; decide), c, _, _, _, rfl, rfl, SqL.of upd_same, hat, ?_⟩
  exact q _ _ (s1.trans (s2.trans s3)) (spoil_ok _ (List.getElem_mem hj))
end
end Mw
namespace Mw
open PySem L2
section
variable {P : Program} {w : World} {K : PySem.W.Frag} {mg : Str -> Option Value} {base : Heap} {f : Addr} {fd : FuncData} {nt bt C_Hand C_PlainHand C_Desk X_MendError X_NoFraction X_NoPoint X_NoSide X_NoRow X_NoTable X_NoText X_NotParted X_OneSide X_TooMany X_WrongBook : Addr}
theorem sc__law_spoiled : FnScope ["_law_lines_here", "_law_number", "_law_way", "_law_rest", "_law_at", "_law_words", "_law_spot", "_law_line_here"] ["_law_lines_here", "_law_number"] (defScope (top 52)) := ⟨rfl, rfl, rfl, by decide +kernel, rfl, by decide +kernel, by decide +kernel⟩
theorem ok__law_spoiled (F : Fun K "_law_spoiled" "_law_spoiled" (top 52) f fd) (T : Txt BN mg) (c__law_word : Cal P w K mg base 1 "_law_word" ["_law_number"] spSpW) : FnOk P w K mg base CX0 2 f fd ["_law_lines_here", "_law_number"] (spSpoil K) := by
  refine F.ok sc__law_spoiled (fun vs H Q E h => ?_) (fun cdv A outer s H vs Q E hr h => ?_)
  · obtain ⟨a, n, k, xs, rfl, _⟩ := h
    rfl
  obtain ⟨a, n, k, xs, rfl, hA, hO, hk, q⟩ := h
  refine ⟨_, (pss_cons (ps_set (i := 2) sc__law_spoiled.nd rfl (Or.inl rfl) (pe_op op_mod (pv 1) pe_int))
      (pss_cons (ps_set (i := 3) sc__law_spoiled.nd rfl (Or.inl rfl) (pe_op op_fdivP (pv 1) pe_int))
      (pss_cons (ps_join (ps_set (i := 4) sc__law_spoiled.nd rfl (Or.inl rfl) (pe_op op_mod (pv 3) (pe_callB (call_lenK (K := K) rfl) rfl (T.nb "len" (by decide)) (by decide +kernel) (pa_cons (pv 0) pa_nil)))))
      (pss_cons (ps_set (i := 5) sc__law_spoiled.nd rfl (Or.inl rfl) (pe_bmK (K := K) rfl PySem.F.plainAttrs_str PySem.F.slot_str_split PySem.F.type_str_split mt_split (pe_ix (ix_listK (K := K) rfl) (pv 0) (pv 4) (fun _ _ => rfl)) (pa_conE pe_str pa_nil)))
      (pss_cons (ps_join (ps_set (i := 6) sc__law_spoiled.nd rfl (Or.inl rfl) (pe_op op_mod (pe_op op_fdivP (pv 3) pe_int) (pe_callB (call_lenK (K := K) rfl) rfl (T.nb "len" (by decide)) (by decide +kernel) (pa_cons (pv 5) pa_nil)))))
      (pss_cons (ps_set (i := 7) sc__law_spoiled.nd rfl (Or.inl rfl) (pe_ix (ix_listK (K := K) rfl) (pv 0) (pv 4) (fun _ _ => rfl)))
      (pss_cons (ps_join (ps_if (pt_cmpR op_lt (pv 2) pe_int (nomark _)) (pss_cons (ps_asg (pe_cal c__law_word (hr.mono (by decide)) rfl (pa_cons (pe_op op_fdivP (pv 3) pe_int) pa_nil)) (pg_sub (pv 5) (pv 6) set_list))
      (pss_one (ps_set (i := 7) sc__law_spoiled.nd rfl (Or.inl rfl) (pe_bmK (K := K) rfl PySem.F.plainAttrs_str PySem.F.slot_str_join PySem.F.type_str_join (mt_joinK (K := K) rfl) pe_str (pa_cons (pv 5) pa_nil))))) pss_nil))
      (pss_cons (ps_join (ps_if (pt_cmpR op_eq (pv 2) pe_int (nomark _)) (pss_one (ps_set (i := 7) sc__law_spoiled.nd rfl (Or.inl rfl) (pe_bmK (K := K) rfl PySem.F.plainAttrs_str PySem.F.slot_str_join PySem.F.type_str_join (mt_joinK (K := K) rfl) pe_str (pa_cons (pe_op op_cat (pe_op op_cat (pe_slice (sl_listK (K := K) rfl) (pv 5) po_none (po_some (pv 6))) (pe_lst (pa_cons (pe_ix (ix_listK (K := K) rfl) (pe_lst (pa_conE pe_str (pa_conE pe_str (pa_conE pe_str pa_nil)))) (pe_op op_mod (pe_op op_fdivP (pv 3) pe_int) pe_int) (fun _ _ => rfl)) pa_nil))) (pe_slice (sl_listK (K := K) rfl) (pv 5) (po_some (pv 6)) po_none)) pa_nil)))) pss_nil))
      (pss_cons (ps_join (ps_if (pt_cmpR op_eq (pv 2) pe_int (nomark _)) (pss_one (ps_set (i := 7) sc__law_spoiled.nd rfl (Or.inl rfl) (pe_bmK (K := K) rfl PySem.F.plainAttrs_str PySem.F.slot_str_join PySem.F.type_str_join (mt_joinK (K := K) rfl) pe_str (pa_cons (pe_op op_cat (pe_slice (sl_listK (K := K) rfl) (pv 5) po_none (po_some (pv 6))) (pe_slice (sl_listK (K := K) rfl) (pv 5) (po_some (pe_op op_add (pv 6) pe_int)) po_none)) pa_nil)))) pss_nil))
      (pss_cons (ps_if (pt_cmpR op_eq (pv 2) pe_int (nomark _)) (pss_one (ps_ret (pe_op op_cat (pv 0) (pe_lst (pa_cons (pe_ix (ix_listK (K := K) rfl) (pe_lst (pa_conE pe_str (pa_conE pe_str (pa_conE pe_str pa_nil)))) (pe_op op_mod (pv 3) pe_int) (fun _ _ => rfl)) pa_nil))))) pss_nil)
      (pss_cons (ps_if (pt_cmpR op_eq (pv 2) pe_int (nomark _)) (pss_one (ps_ret (pe_op op_cat (pe_op op_rep (pe_slice (sl_listK (K := K) rfl) (pv 0) po_none (po_some pe_int)) (pe_op op_sub pe_int (pe_callB (call_lenK (K := K) rfl) rfl (T.nb "len" (by decide)) (by decide +kernel) (pa_cons (pv 0) pa_nil)))) (pv 0)))) pss_nil)
      (pss_one (ps_ret (pe_op op_cat (pe_op op_cat (pe_slice (sl_listK (K := K) rfl) (pv 0) po_none (po_some (pv 4))) (pe_lst (pa_cons (pv 7) pa_nil))) (pe_slice (sl_listK (K := K) rfl) (pv 0) (po_some (pe_op op_add (pv 4) pe_int)) po_none))))))))))))))), ?_⟩
  have hne := hO.ne
  have hfew := hO.few
  have sz : ∀ n : Nat, n <= 1000 -> n <= sizeLine := fun n h => len1000 h
  have hpos : 0 < xs.length := List.length_pos_iff.mpr hne
  have hlm : (((xs.map V.str).length : Nat) : Int) = (xs.length : Int) := by rw [List.length_map]
  refine ⟨_, rfl, _, _, rfl, rfl, (by show (0 : Int) < 6; decide), ?_⟩
  refine ⟨_, rfl, _, _, rfl, rfl, div64 (by decide) (by decide), ?_⟩
  refine ⟨fun σ H' => ∃ j : Nat, σ = [some (.ref a), some (.int n), some (.int (n % 6)), some (.int (n / 6)), some (.int (j : Int)), none, none, none] /\ H' = H /\ j < xs.length, ?_, ?_⟩
  · refine ⟨_, rfl, _, rfl, a, _, rfl, .inl (SqL.of hA), _, _, rfl, rfl, (by show (0 : Int) < (((xs.map V.str).length : Nat) : Int); omega), ?_⟩
    have m0 : 0 <= n / 6 % (((xs.map V.str).length : Nat) : Int) := Int.emod_nonneg _ (by omega)
    have m1 : n / 6 % (((xs.map V.str).length : Nat) : Int) < (((xs.map V.str).length : Nat) : Int) := Int.emod_lt_of_pos _ (by omega)
    refine ⟨(n / 6 % (((xs.map V.str).length : Nat) : Int)).toNat, ?_, rfl, by omega⟩
    rw [Int.toNat_of_nonneg m0]
    rfl
  rintro σ H1 ⟨j, rfl, eH, hj⟩
  cases eH
  have hx : xs[j]? = some xs[j] := List.getElem?_eq_getElem hj
  have hxm : xs[j] ∈ xs := List.getElem_mem hj
  generalize xs[j] = x at *
  have hxl := hO.len x hxm
  have hxn := hO.nl x hxm
  have hat : atI (xs.map V.str) (j : Int) = some (.str x) := atI_nat (j := j) (by rw [List.getElem?_map, hx]; rfl)
  have hsl := PyProof.Rows.split_le x " "
  refine ⟨_, rfl, _, rfl, a, _, _, _, rfl, rfl, SqL.of hA, hat, rfl, x, " ", rfl, rfl, by decide +kernel, by omega, by omega, fun pw hpw => ?_⟩
  rw [sp_is]
  have hwp := PyProof.Rows.split_pos x ⟨#[32]⟩
  have hww := wtS_split x
  have hwn := split_nl (c := 32) hxn
  generalize Txt.split x ⟨#[32]⟩ = ws at *
  have s0 := Same.new hpw (.lst (ws.map V.str))
  have hW : upd H pw (.lst (ws.map V.str)) pw = some (.lst (ws.map V.str)) := upd_same
  have hA0 := s0 _ _ hA
  generalize upd H pw (.lst (ws.map V.str)) = H0 at *
  have hwlm : (((ws.map V.str).length : Nat) : Int) = (ws.length : Int) := by rw [List.length_map]
  refine ⟨fun σ H' => ∃ i : Nat, σ = [some (.ref a), some (.int n), some (.int (n % 6)), some (.int (n / 6)), some (.int (j : Int)), some (.ref pw), some (.int (i : Int)), none] /\ H' = H0 /\ i < ws.length, ?_, ?_⟩
  · refine ⟨_, rfl, _, _, rfl, rfl, div64 (by decide) (by decide), _, rfl, pw, _, rfl, .inl (SqL.of hW), _, _, rfl, rfl, (by show (0 : Int) < (((ws.map V.str).length : Nat) : Int); omega), ?_⟩
    have m0 : 0 <= n / 6 / 31 % (((ws.map V.str).length : Nat) : Int) := Int.emod_nonneg _ (by omega)
    have m1 : n / 6 / 31 % (((ws.map V.str).length : Nat) : Int) < (((ws.map V.str).length : Nat) : Int) := Int.emod_lt_of_pos _ (by omega)
    refine ⟨(n / 6 / 31 % (((ws.map V.str).length : Nat) : Int)).toNat, ?_, rfl, by omega⟩
    rw [Int.toNat_of_nonneg m0]
    rfl
  rintro σ H1 ⟨i, rfl, eH, hi⟩
  subst eH
  refine ⟨_, rfl, _, rfl, a, _, _, _, rfl, rfl, SqL.of hA0, hat, ?_⟩
  have hwl2 := wtS_len ws
  -- what holds behind each of the three ways
  refine ⟨fun σ H' => ∃ (us : List Str) (ln : Str), σ = [some (.ref a), some (.int n), some (.int (n % 6)), some (.int (n / 6)), some (.int (j : Int)), some (.ref pw), some (.int (i : Int)), some (.str ln)] /\ Same H H' /\ H' pw = some (.lst (us.map V.str)) /\ us.length = ws.length /\ wtS us <= 112 + 20 * k /\ (∀ w ∈ us, 10 ∉ cs w) /\ ln.length <= 125 + 20 * k /\ 10 ∉ cs ln, ?_, ?_⟩
  · refine ⟨_, rfl, _, _, rfl, rfl, _, rfl, ?_⟩
    refine iteD (fun _ => ?_) (fun _ => ?_)
    rotate_left
    · exact ⟨ws, x, rfl, s0, hW, rfl, by omega, hwn, by omega, hxn⟩
    refine ⟨_, rfl, _, _, rfl, rfl, div64 (by decide) (by decide), _, rfl, fun w H1 s1 hw => ?_⟩
    have hW1 := s1 _ _ hW
    have w1 := hw.len
    have hset := wtS_set w ws i
    have hsn : ∀ v ∈ ws.set i w, 10 ∉ cs v := fun v hv => by
      rcases List.mem_or_eq_of_mem_set hv with h | h
      · exact hwn v h
      · rw [h]; exact hw.nl
    refine ⟨_, rfl, _, rfl, pw, _, _, i, rfl, rfl, hW1, ?_, ?_⟩
    · show (if (0 : Int) <= (i : Int) then _ else _) = _
      rw [if_pos (by omega), if_pos (by rw [List.length_map]; omega)]; rfl
    rw [<- List.map_set]
    have e1 : upd H1 pw (.lst ((ws.set i w).map V.str)) pw = some (.lst ((ws.set i w).map V.str)) := upd_same
    have s2 : Same H (upd H1 pw (.lst ((ws.set i w).map V.str))) := (s0.trans s1).upd_old hpw
    refine ⟨rfl, _, rfl, " ", pw, ws.set i w, rfl, rfl, SqL.of e1, ?_, ?_⟩
    · rw [sp_is]; exact joinOk 32 _ (by omega)
    rw [sp_is]
    have hjw := join_wt 32 (ws.set i w)
    exact ⟨ws.set i w, _, rfl, s2, e1, List.length_set, by omega, hsn, by omega, join_nl hsn⟩
  rintro σ H1 ⟨us, ln, rfl, s1, hU, hul, huw, hun, hln, hlnn⟩
  refine ⟨fun σ H' => ∃ (ln : Str), σ = [some (.ref a), some (.int n), some (.int (n % 6)), some (.int (n / 6)), some (.int (j : Int)), some (.ref pw), some (.int (i : Int)), some (.str ln)] /\ Same H H' /\ H' pw = some (.lst (us.map V.str)) /\ ln.length <= 125 + 20 * k /\ 10 ∉ cs ln, ?_, ?_⟩
  · refine ⟨_, rfl, rfl, _, rfl, ?_⟩
    refine iteD (fun _ => ?_) (fun _ => ?_)
    rotate_left
    · exact ⟨ln, rfl, s1, hU, hln, hlnn⟩
    refine ⟨rfl, ?_⟩
    refine ⟨_, rfl, _, rfl, _, rfl, pw, _, rfl, SqL.of hU, fun p1 hp1 => ?_⟩
    rw [cutL_map, cut_to us i (by omega)]
    have t1 := Same.new hp1 (.lst ((us.take i).map V.str))
    obtain ⟨z, hz, zl, zn⟩ := lit_at lit1.2.1 lit1.2.2.1 lit1.1 (n / 6 / 200)
    refine ⟨(by show 3 <= sizeLine; decide), fun p2 hp2 => ?_⟩
    have t2 := Same.new hp2 (.lst [.str "1", .str "0", .str ""])
    refine ⟨_, rfl, _, _, rfl, rfl, div64 (by decide) (by decide), _, _, rfl, rfl, (by show (0 : Int) < 3; decide), p2, _, _, _, rfl, rfl, SqL.of upd_same, hz, (by show 1 <= sizeLine; decide), fun p3 hp3 => ?_⟩
    have t3 := Same.new hp3 (.lst [.str z])
    have tl : (us.take i).length = i := by rw [List.length_take]; omega
    refine ⟨p1, p3, _, _, rfl, rfl, t3 _ _ (t2 _ _ upd_same), upd_same, sz _ (by rw [List.length_map, List.length_singleton]; omega), fun p4 hp4 => ?_⟩
    have t4 := Same.new hp4 (.lst ((us.take i).map V.str ++ [.str z]))
    have t14 := t1.trans (t2.trans (t3.trans t4))
    refine ⟨_, rfl, _, rfl, _, rfl, pw, _, rfl, SqL.of (t14 _ _ hU), fun p5 hp5 => ?_⟩
    rw [cutL_map, cut_from us i (by omega)]
    have t5 := Same.new hp5 (.lst ((us.drop i).map V.str))
    refine ⟨p4, p5, _, _, rfl, rfl, t5 _ _ upd_same, upd_same, sz _ (by rw [List.length_append, List.length_map, List.length_map, List.length_drop, List.length_singleton]; omega), fun p6 hp6 => ?_⟩
    rw [show (us.take i).map V.str ++ [V.str z] ++ (us.drop i).map V.str = (us.take i ++ [z] ++ us.drop i).map V.str by rw [List.map_append, List.map_append]; rfl] at *
    have t6 := Same.new hp6 (.lst ((us.take i ++ [z] ++ us.drop i).map V.str))
    have hcut := wtS_cut us i
    have hwz : wtS (us.take i ++ [z] ++ us.drop i) <= 117 + 20 * k := by
      rw [wtS_app, wtS_app]
      have : wtS [z] = z.length + 1 := by simp [wtS]
      omega
    have hnn : ∀ w ∈ us.take i ++ [z] ++ us.drop i, 10 ∉ cs w := fun w hw => by
      rcases List.mem_append.mp hw with hw | hw
      · rcases List.mem_append.mp hw with hw | hw
        · exact hun w (List.mem_of_mem_take hw)
        · have : w = z := by simpa using hw
          rw [this]; exact zn
      · exact hun w (List.mem_of_mem_drop hw)
    refine ⟨" ", p6, us.take i ++ [z] ++ us.drop i, rfl, rfl, SqL.of upd_same, ?_, ?_⟩
    · rw [sp_is]; exact joinOk 32 _ (by omega)
    rw [sp_is]
    have hjw := join_wt 32 (us.take i ++ [z] ++ us.drop i)
    exact ⟨_, rfl, s1.trans (t14.trans (t5.trans t6)), (t14.trans (t5.trans t6)) _ _ hU, by omega, join_nl hnn⟩
  rintro σ H2 ⟨ln, rfl, s2, hU, hln, hlnn⟩
  refine ⟨fun σ H' => ∃ (ln : Str), σ = [some (.ref a), some (.int n), some (.int (n % 6)), some (.int (n / 6)), some (.int (j : Int)), some (.ref pw), some (.int (i : Int)), some (.str ln)] /\ Same H H' /\ ln.length <= 125 + 20 * k /\ 10 ∉ cs ln, ?_, ?_⟩
  · refine ⟨_, rfl, rfl, _, rfl, ?_⟩
    refine iteD (fun _ => ?_) (fun _ => ?_)
    rotate_left
    · exact ⟨ln, rfl, s2, hln, hlnn⟩
    refine ⟨rfl, ?_⟩
    refine ⟨_, rfl, _, rfl, _, rfl, pw, _, rfl, SqL.of hU, fun p1 hp1 => ?_⟩
    rw [cutL_map, cut_to us i (by omega)]
    have t1 := Same.new hp1 (.lst ((us.take i).map V.str))
    refine ⟨_, rfl, _, rfl, _, _, rfl, rfl, _, rfl, pw, _, rfl, SqL.of (t1 _ _ hU), fun p5 hp5 => ?_⟩
    rw [cutL_map, show (i : Int) + 1 = ((i + 1 : Nat) : Int) by omega, cut_from us (i + 1) (by omega)]
    have t5 := Same.new hp5 (.lst ((us.drop (i + 1)).map V.str))
    refine ⟨p1, p5, _, _, rfl, rfl, t5 _ _ upd_same, upd_same, sz _ (by rw [List.length_map, List.length_map, List.length_drop, List.length_take]; omega), fun p6 hp6 => ?_⟩
    rw [show (us.take i).map V.str ++ (us.drop (i + 1)).map V.str = (us.take i ++ us.drop (i + 1)).map V.str by rw [List.map_append]] at *
    have t6 := Same.new hp6 (.lst ((us.take i ++ us.drop (i + 1)).map V.str))
    have hcut := wtS_cut us i
    have hcut2 := wtS_cut (us.drop i) 1
    rw [List.drop_drop] at hcut2
    have hwz : wtS (us.take i ++ us.drop (i + 1)) <= 112 + 20 * k := by
      rw [wtS_app]; omega
    have hnn : ∀ w ∈ us.take i ++ us.drop (i + 1), 10 ∉ cs w := fun w hw => by
      rcases List.mem_append.mp hw with hw | hw
      · exact hun w (List.mem_of_mem_take hw)
      · exact hun w (List.mem_of_mem_drop hw)
    refine ⟨" ", p6, us.take i ++ us.drop (i + 1), rfl, rfl, SqL.of upd_same, ?_, ?_⟩
    · rw [sp_is]; exact joinOk 32 _ (by omega)
    rw [sp_is]
    have hjw := join_wt 32 (us.take i ++ us.drop (i + 1))
    exact ⟨_, rfl, s2.trans (t1.trans (t5.trans t6)), by omega, join_nl hnn⟩
  clear hU s1 s2 hln hlnn
  rintro σ H3 ⟨ln, rfl, s3, hln, hlnn⟩
  have hA3 := s3 _ _ hA
  have old : ∀ x ∈ xs, x.length <= 105 + 20 * (k + 1) /\ 10 ∉ cs x := fun x hx => ⟨by have := hO.len x hx; omega, hO.nl x hx⟩
  refine ⟨_, rfl, rfl, _, rfl, ?_⟩
  refine iteD (fun _ => ?_) (fun _ => ?_)
  · obtain ⟨z, hz, zl, zn⟩ := lit_at lit1.1 lit1.2.1 lit1.2.2.2 (n / 6)
    refine ⟨_, rfl, (by show 3 <= sizeLine; decide), fun p2 hp2 => ?_⟩
    have t2 := Same.new hp2 (.lst [.str "", .str "1", .str "0 1 "])
    refine ⟨_, rfl, _, _, rfl, rfl, (by show (0 : Int) < 3; decide), p2, _, _, _, rfl, rfl, SqL.of upd_same, hz, (by show 1 <= sizeLine; decide), fun p3 hp3 => ?_⟩
    have t3 := Same.new hp3 (.lst [.str z])
    refine ⟨a, p3, _, _, rfl, rfl, (t2.trans t3) _ _ hA3, upd_same, sz _ (by rw [List.length_map, List.length_singleton]; omega), fun p4 hp4 => ?_⟩
    rw [show xs.map V.str ++ [V.str z] = (xs ++ [z]).map V.str by rw [List.map_append]; rfl] at *
    refine q p4 (xs ++ [z]) _ (s3.trans (t2.trans (t3.trans (Same.new hp4 _)))) upd_same ⟨by simp, by rw [List.length_append]; show xs.length + 1 <= _; omega, fun v hv => ?_, fun v hv => ?_⟩
    · rcases List.mem_append.mp hv with hv | hv
      · exact (old v hv).1
      · have : v = z := by simpa using hv
        rw [this]; omega
    · rcases List.mem_append.mp hv with hv | hv
      · exact (old v hv).2
      · have : v = z := by simpa using hv
        rw [this]; exact zn
  refine ⟨_, rfl, rfl, _, rfl, ?_⟩
  refine iteD (fun _ => ?_) (fun _ => ?_)
  · refine ⟨_, rfl, _, rfl, a, _, rfl, SqL.of hA3, fun p1 hp1 => ?_⟩
    rw [cutL_map, show (1 : Int) = ((1 : Nat) : Int) from rfl, cut_to xs 1 (by omega)]
    have t1 := Same.new hp1 (.lst ((xs.take 1).map V.str))
    have h1l : (xs.take 1).length = 1 := by rw [List.length_take]; omega
    refine ⟨_, rfl, a, _, rfl, .inl (SqL.of (t1 _ _ hA3)), _, _, rfl, rfl, ?_⟩
    rw [hlm]
    refine ⟨p1, 31 - (xs.length : Int), _, rfl, rfl, upd_same, by omega, by omega, sz _ (by rw [List.length_map, h1l]; omega), fun p2 hp2 => ?_⟩
    have er : (List.replicate (31 - (xs.length : Int)).toNat ((xs.take 1).map V.str)).flatten = ((List.replicate (31 - (xs.length : Int)).toNat (xs.take 1)).flatten).map V.str := by
      rw [List.map_flatten, List.map_replicate]
    rw [er] at *
    have t2 := Same.new hp2 (.lst (((List.replicate (31 - (xs.length : Int)).toNat (xs.take 1)).flatten).map V.str))
    have hrl := len_rep (xs.take 1) (31 - (xs.length : Int)).toNat
    rw [h1l, Nat.mul_one] at hrl
    refine ⟨_, rfl, p2, a, _, _, rfl, rfl, upd_same, (t1.trans t2) _ _ hA3, sz _ (by rw [List.length_map, List.length_map]; omega), fun p4 hp4 => ?_⟩
    rw [<- List.map_append] at *
    have hmm : ∀ v ∈ (List.replicate (31 - (xs.length : Int)).toNat (xs.take 1)).flatten ++ xs, v ∈ xs := fun v hv => by
      rcases List.mem_append.mp hv with hv | hv
      · obtain ⟨l, hl, hv⟩ := List.mem_flatten.mp hv
        rw [List.eq_of_mem_replicate hl] at hv
        exact List.mem_of_mem_take hv
      · exact hv
    refine q p4 _ _ (s3.trans (t1.trans (t2.trans (Same.new hp4 _)))) upd_same ⟨by intro z; exact hne (List.append_eq_nil_iff.mp z).2, by rw [List.length_append, hrl]; omega, fun v hv => (old v (hmm v hv)).1, fun v hv => (old v (hmm v hv)).2⟩
  refine ⟨_, rfl, _, rfl, _, rfl, a, _, rfl, SqL.of hA3, fun p1 hp1 => ?_⟩
  rw [cutL_map, cut_to xs j (by omega)]
  have t1 := Same.new hp1 (.lst ((xs.take j).map V.str))
  refine ⟨_, rfl, (by show 1 <= sizeLine; decide), fun p3 hp3 => ?_⟩
  have t3 := Same.new hp3 (.lst [.str ln])
  have tl : (xs.take j).length = j := by rw [List.length_take]; omega
  refine ⟨p1, p3, _, _, rfl, rfl, t3 _ _ upd_same, upd_same, sz _ (by rw [List.length_map, List.length_singleton]; omega), fun p4 hp4 => ?_⟩
  have t4 := Same.new hp4 (.lst ((xs.take j).map V.str ++ [.str ln]))
  have t14 := t1.trans (t3.trans t4)
  refine ⟨_, rfl, _, rfl, _, _, rfl, rfl, _, rfl, a, _, rfl, SqL.of (t14 _ _ hA3), fun p5 hp5 => ?_⟩
  rw [cutL_map, show (j : Int) + 1 = ((j + 1 : Nat) : Int) by omega, cut_from xs (j + 1) (by omega)]
  have t5 := Same.new hp5 (.lst ((xs.drop (j + 1)).map V.str))
  refine ⟨p4, p5, _, _, rfl, rfl, t5 _ _ upd_same, upd_same, sz _ (by rw [List.length_append, List.length_map, List.length_map, List.length_drop, List.length_singleton]; omega), fun p6 hp6 => ?_⟩
  rw [show (xs.take j).map V.str ++ [V.str ln] ++ (xs.drop (j + 1)).map V.str = (xs.take j ++ [ln] ++ xs.drop (j + 1)).map V.str by rw [List.map_append, List.map_append]; rfl] at *
  refine q p6 _ _ (s3.trans (t14.trans (t5.trans (Same.new hp6 _)))) upd_same ⟨by simp, by rw [List.length_append, List.length_append, tl, List.length_drop, List.length_singleton]; omega, fun v hv => ?_, fun v hv => ?_⟩
  · rcases List.mem_append.mp hv with hv | hv
    · rcases List.mem_append.mp hv with hv | hv
      · exact (old v (List.mem_of_mem_take hv)).1
      · have : v = ln := by simpa using hv
        rw [this]; omega
    · exact (old v (List.mem_of_mem_drop hv)).1
  · rcases List.mem_append.mp hv with hv | hv
    · rcases List.mem_append.mp hv with hv | hv
      · exact (old v (List.mem_of_mem_take hv)).2
      · have : v = ln := by simpa using hv
        rw [this]; exact hlnn
    · exact (old v (List.mem_of_mem_drop hv)).2
end
end Mw
namespace Mw
open PySem L2
section
variable {P : Program} {w : World} {K : PySem.W.Frag} {mg : Str -> Option Value} {base : Heap} {f : Addr} {fd : FuncData} {nt bt C_Hand C_PlainHand C_Desk X_MendError X_NoFraction X_NoPoint X_NoSide X_NoRow X_NoTable X_NoText X_NotParted X_OneSide X_TooMany X_WrongBook : Addr}
theorem sc__law_figures : FnScope ["_law_word_here"] ["_law_word_here"] (defScope (top 53)) := ⟨rfl, rfl, rfl, by decide +kernel, rfl, by decide +kernel, by decide +kernel⟩
theorem ok__law_figures (F : Fun K "_law_figures" "_law_figures" (top 53) f fd) (T : Txt BN mg) : FnOk P w K mg base CX0 1 f fd ["_law_word_here"] spIsNum := by
  refine F.ok sc__law_figures (fun vs H Q E h => ?_) (fun cdv A outer s H vs Q E hr h => ?_)
  · obtain ⟨w, rfl, _⟩ := h
    rfl
  obtain ⟨w, rfl, hl, q⟩ := h
  refine ⟨_, (pss_cons (ps_join (ps_if (PW.pt (pw_or (pt_cmpR op_eq (pv 0) pe_str (nomark _)) (pw_or (pt_cmpR op_gt (pe_callB call_len_str rfl (T.nb "len" (by decide)) (by decide +kernel) (pa_cons (pv 0) pa_nil)) pe_int (nomark _)) (pw_or1 (PW.pt (pw_and (pt_cmpR op_eq (pe_ix ix_str (pv 0) pe_int (fun _ _ => rfl)) pe_str (nomark _)) (pw_and1 (pt_cmpR op_gt (pe_callB call_len_str rfl (T.nb "len" (by decide)) (by decide +kernel) (pa_cons (pv 0) pa_nil)) pe_int (nomark _))))))))) (pss_one (ps_ret pe_bl)) pss_nil))
      (pss_one (ps_ret (pe_cmpR op_eq (pe_callB (call_lenK (K := K) rfl) rfl (T.nb "len" (by decide)) (by decide +kernel) (pa_cons (pe_comp (sc := defScope (top 53)) (N := ["_law_word_here"]) (NB := ["_law_sign"]) (fr := [none]) rfl (by decide +kernel) (pi_str (pv 0)) (fun _ _ _ _ => (pg_name (i := 0) (show (["_law_sign"] : List Str).Nodup by decide +kernel) rfl (Or.inl rfl))) (fun _ _ _ _ => .one (pt_cmpR op_notin_str (pv 0) pe_str (by with_unfolding_all rfl))) (fun _ _ _ _ => (pv 0))) pa_nil)) pe_int (nomark _))))), ?_⟩
  have hz := len1000 hl
  have hcl := cs_length w
  have no : ∀ b, isNumB w = b -> Q (.bl b) H := fun b e => by rw [<- e]; exact q H (Same.refl _)
  refine ⟨fun σ H' => σ = [some (.str w)] /\ H' = H /\ 1 <= w.length /\ w.length <= 4 /\ (decide ((cs w)[0]? = some 48) && !decide (w = "0")) = false, ?_, ?_⟩
  rotate_left
  · rintro σ H1 ⟨rfl, eH, h1, h4, hb⟩
    cases eH
    refine ⟨_, rfl, w, rfl, fun D hD => ?_⟩
    refine comp_str_filter (x := w) (fun c => !decide (c ∈ figs)) (fun c => .str ⟨#[c]⟩) hz hD (fun c' H' R R' hc' s' k k' => ?_) (fun H' s' e => ?_)
    · refine ⟨wk_none (n := 1) rfl, ?_⟩
      refine ⟨_, rfl, ⟨#[c']⟩, "0123456789", rfl, rfl, _, rfl, ?_⟩
      rw [in_figs]
      refine iteB (fun e => ?_) (fun e => ?_)
      · exact ⟨_, rfl, k e H' (Same.refl _)⟩
      · exact k' e H' (Same.refl _)
    · refine ⟨D, _, rfl, .inl (SqL.of e), rfl, ?_⟩
      have e1 : decide (V.int ((((cs w).filter fun c => !decide (c ∈ figs)).map fun c => V.str ⟨#[c]⟩).length : Int) = V.int 0) = isNumB w := by
        unfold isNumB
        rw [decide_eq_true (show 1 <= w.length /\ w.length <= 4 from ⟨h1, h4⟩), hb, List.length_map]
        show _ = (true && true && _)
        rw [Bool.and_self, Bool.true_and]
        by_cases ha : (cs w).all (fun c => decide (c ∈ figs)) = true
        · rw [ha, List.filter_eq_nil_iff.mpr (fun c hc => by rw [List.all_eq_true.mp ha c hc]; decide)]
          rfl
        · rw [Bool.not_eq_true _ |>.mp ha]
          refine decide_eq_false fun z => ha ?_
          injection z with z
          have z : ((cs w).filter fun c => !decide (c ∈ figs)) = [] := List.eq_nil_of_length_eq_zero (by omega)
          refine List.all_eq_true.mpr fun c hc => ?_
          have hz2 := List.filter_eq_nil_iff.mp z c hc
          cases hd : decide (c ∈ figs) with
          | true => rfl
          | false => rw [hd] at hz2; exact absurd rfl hz2
      show Q (.bl (decide _)) _
      rw [e1]
      exact q H' s'
  refine ⟨_, rfl, rfl, _, rfl, ?_⟩
  refine iteD (fun z1 => ?_) (fun z1 => ?_)
  · have e : w = "" := by injection z1
    exact no false (by rw [e]; decide +kernel)
  have h1 : 1 <= w.length := by
    rcases Nat.lt_or_ge 0 w.length with h | h
    · exact h
    · exact absurd (by rw [show w = "" from str_ext (by rw [empty_cs]; exact List.eq_nil_of_length_eq_zero (by omega))]) z1
  refine ⟨_, rfl, w, rfl, hz, _, _, rfl, rfl, _, rfl, ?_⟩
  refine iteD (fun z2 => ?_) (fun z2 => ?_)
  · exact no false (by unfold isNumB; rw [decide_eq_false (fun y => by have z2 : (4 : Int) < (w.length : Int) := z2; omega)]; rfl)
  have h4 : w.length <= 4 := by
    rcases Nat.lt_or_ge 4 w.length with h | h
    · exact absurd (show (4 : Int) < (w.length : Int) by omega) z2
    · exact h
  obtain ⟨c, hc⟩ : ∃ c, (cs w)[0]? = some c := ⟨_, List.getElem?_eq_getElem (show 0 < (cs w).length by omega)⟩
  refine ⟨_, rfl, w, 0, c, rfl, rfl, hz, by show atI (cs w) 0 = some c; exact atI_nat (j := 0) hc, rfl, _, rfl, ?_⟩
  rw [first48 hc]
  refine iteD (fun y1 => ?_) (fun y1 => ?_)
  · refine ⟨_, rfl, w, rfl, hz, _, _, rfl, rfl, _, rfl, ?_⟩
    refine iteD (fun y2 => ?_) (fun y2 => ?_)
    · have y3 : ¬ w = "0" := fun y => by
        have := (zero_len y1).mp y
        have y2 : (1 : Int) < (w.length : Int) := y2
        omega
      exact no false (by unfold isNumB; rw [decide_eq_true y1, decide_eq_false y3, Bool.true_and, Bool.not_false, Bool.not_true, Bool.and_false]; rfl)
    · have y3 : w = "0" := (zero_len y1).mpr (by
        rcases Nat.lt_or_ge 1 w.length with h | h
        · exact absurd (show (1 : Int) < (w.length : Int) by omega) y2
        · omega)
      exact ⟨rfl, rfl, h1, h4, by rw [decide_eq_true y3]; exact Bool.and_false _⟩
  · exact ⟨rfl, rfl, h1, h4, by rw [decide_eq_false y1]; rfl⟩
end
end Mw
namespace Mw
open PySem L2
section
variable {P : Program} {w : World} {K : PySem.W.Frag} {mg : Str -> Option Value} {base : Heap} {f : Addr} {fd : FuncData} {nt bt C_Hand C_PlainHand C_Desk X_MendError X_NoFraction X_NoPoint X_NoSide X_NoRow X_NoTable X_NoText X_NotParted X_OneSide X_TooMany X_WrongBook : Addr}
theorem sc__law_size : FnScope ["_law_word_here", "_law_bare", "_law_parts", "_law_bottom"] ["_law_word_here"] (defScope (top 54)) := ⟨rfl, rfl, rfl, by decide +kernel, rfl, by decide +kernel, by decide +kernel⟩
theorem ok__law_size (F : Fun K "_law_size" "_law_size" (top 54) f fd) (T : Txt BN mg) (c__law_factor : Cal P w K mg base 1 "_law_factor" ["_law_one", "_law_other"] spFac) (c__law_figures : Cal P w K mg base 1 "_law_figures" ["_law_word_here"] spIsNum) : FnOk P w K mg base CX0 2 f fd ["_law_word_here"] spSizeW := by
  refine F.ok sc__law_size (fun vs H Q E h => ?_) (fun cdv A outer s H vs Q E hr h => ?_)
  · obtain ⟨w, rfl, _⟩ := h
    rfl
  obtain ⟨w, rfl, hl, qn, qs⟩ := h
  refine ⟨_, (pss_cons (ps_set (i := 1) sc__law_size.nd rfl (Or.inl rfl) (pv 0))
      (pss_cons (ps_join (ps_if (pt_cmpR op_eq (pe_slice sl_str (pv 0) po_none (po_some pe_int)) pe_str (nomark _)) (pss_one (ps_set (i := 1) sc__law_size.nd rfl (Or.inl rfl) (pe_slice sl_str (pv 0) (po_some pe_int) po_none))) pss_nil))
      (pss_cons (ps_set (i := 2) sc__law_size.nd rfl (Or.inl rfl) (pe_bmK (K := K) rfl PySem.F.plainAttrs_str PySem.F.slot_str_split PySem.F.type_str_split mt_split (pv 1) (pa_conE pe_str pa_nil)))
      (pss_cons (ps_if (PW.pt (pw_or (pt_cmpR op_gt (pe_callB (call_lenK (K := K) rfl) rfl (T.nb "len" (by decide)) (by decide +kernel) (pa_cons (pv 2) pa_nil)) pe_int (nomark _)) (pw_or1 (pt_cmpR op_gt (pe_callB (call_lenK (K := K) rfl) rfl (T.nb "len" (by decide)) (by decide +kernel) (pa_cons (pe_comp (sc := defScope (top 54)) (N := ["_law_word_here", "_law_bare", "_law_parts", "_law_bottom"]) (NB := ["_law_one"]) (fr := [none]) rfl (by decide +kernel) (pi_list (pv 2)) (fun _ _ _ _ => (pg_name (i := 0) (show (["_law_one"] : List Str).Nodup by decide +kernel) rfl (Or.inl rfl))) (fun _ _ _ _ => .one (pt_not (pt_val (pe_cal c__law_figures (hr.mono (by decide)) rfl (pa_cons (pv 0) pa_nil))))) (fun _ _ _ _ => (pv 0))) pa_nil)) pe_int (nomark _))))) (pss_one (ps_ret pe_non)) pss_nil)
      (pss_cons (ps_set (i := 3) sc__law_size.nd rfl (Or.inl rfl) pe_int)
      (pss_cons (ps_join (ps_if (pt_cmpR op_eq (pe_callB (call_lenK (K := K) rfl) rfl (T.nb "len" (by decide)) (by decide +kernel) (pa_cons (pv 2) pa_nil)) pe_int (nomark _)) (pss_cons (ps_set (i := 3) sc__law_size.nd rfl (Or.inl rfl) (pe_callTy call_intS rfl (T.nb "int" (by decide)) (by decide +kernel) (pa_cons (pe_ix (ix_listK (K := K) rfl) (pv 2) pe_int (fun _ _ => rfl)) pa_nil)))
      (pss_one (ps_if (PW.pt (pw_or (pt_cmpR op_lt (pv 3) pe_int (nomark _)) (pw_or (pt_cmpR op_gt (pv 3) pe_int (nomark _)) (pw_or1 (pt_cmpR op_ne (pe_cal c__law_factor (hr.mono (by decide)) rfl (pa_cons (pe_callTy call_intS rfl (T.nb "int" (by decide)) (by decide +kernel) (pa_cons (pe_ix (ix_listK (K := K) rfl) (pv 2) pe_int (fun _ _ => rfl)) pa_nil)) (pa_cons (pv 3) pa_nil))) pe_int (nomark _)))))) (pss_one (ps_ret pe_non)) pss_nil))) pss_nil))
      (pss_cons (ps_join (ps_if (PW.pt (pw_and (pt_cmpR op_ne (pv 1) (pv 0) (nomark _)) (pw_and1 (pt_cmpR op_eq (pe_callTy call_intS rfl (T.nb "int" (by decide)) (by decide +kernel) (pa_cons (pe_ix (ix_listK (K := K) rfl) (pv 2) pe_int (fun _ _ => rfl)) pa_nil)) pe_int (nomark _))))) (pss_one (ps_ret pe_non)) pss_nil))
      (pss_one (ps_ret (pe_tup (pa_cons (pe_op op_mulB (pe_callTy call_intS rfl (T.nb "int" (by decide)) (by decide +kernel) (pa_cons (pe_ix (ix_listK (K := K) rfl) (pv 2) pe_int (fun _ _ => rfl)) pa_nil)) (pe_ix (ix_listK (K := K) rfl) (pe_lst (pa_conE pe_int (pa_cons (pe_un un_neg pe_int) pa_nil))) (pe_callTy call_int1 rfl (T.nb "int" (by decide)) (by decide +kernel) (pa_cons (pe_cmpR op_ne (pv 1) (pv 0) (nomark _)) pa_nil)) (fun _ _ => rfl))) (pa_cons (pv 3) pa_nil)))))))))))), ?_⟩
  have hz := len1000 (show w.length <= 1000 by omega)
  have hul := unsg_le w
  refine ⟨_, rfl, ?_⟩
  refine ⟨fun σ H' => σ = [some (.str w), some (.str (unsg w)), none, none] /\ H' = H, ?_, ?_⟩
  · refine ⟨_, rfl, _, rfl, w, rfl, hz, rfl, _, rfl, ?_⟩
    refine iteD (fun z => ?_) (fun z => ?_)
    · have z1 := (slice_to1 w).mp z
      refine ⟨_, rfl, _, rfl, w, rfl, hz, ?_, rfl⟩
      unfold unsg; rw [starts_minus, if_pos (decide_eq_true z1)]; rfl
    · have z1 : (cs w)[0]? ≠ some 45 := fun y => z ((slice_to1 w).mpr y)
      refine ⟨?_, rfl⟩
      rw [(unsg_ne w).mpr z1]; rfl
  rintro σ H1 ⟨rfl, eH⟩
  cases eH
  have hsl := PyProof.Rows.split_le (unsg w) "/"
  refine ⟨_, rfl, rfl, unsg w, "/", rfl, rfl, by decide +kernel, by omega, by omega, fun p hp => ?_⟩
  have s1 := Same.new hp (.lst ((Txt.split (unsg w) "/").map V.str))
  have hP : upd H p (.lst ((Txt.split (unsg w) "/").map V.str)) p = some (.lst ((Txt.split (unsg w) "/").map V.str)) := upd_same
  have h2 := size_two w hl
  generalize Txt.split (unsg w) "/" = ps at *
  generalize upd H p (.lst (ps.map V.str)) = H1 at *
  refine ⟨_, rfl, p, _, rfl, .inl (SqL.of hP), _, _, rfl, rfl, _, rfl, ?_⟩
  refine iteD (fun z => ?_) (fun z => ?_)
  · have z : (2 : Int) < (((ps.map V.str).length : Nat) : Int) := z
    rw [List.length_map] at z
    rcases h2 with ⟨_, hc⟩ | ⟨h3, _⟩
    · exact qn hc _ s1
    · omega
  have z : ¬ (2 : Int) < (((ps.map V.str).length : Nat) : Int) := z
  rw [List.length_map] at z
  rcases h2 with ⟨h3, _⟩ | ⟨_, hle, hbad, hgood⟩
  · omega
  refine ⟨_, rfl, p, rfl, ⟨_, SqL.of hP⟩, fun D hD => ?_⟩
  refine comp_list_filter (xs := ps.map V.str) (fun i => !isNumB (ps.getD i "")) (fun i => .str (ps.getD i "")) (SqL.of hP) (by rw [List.length_map]; exact len1000 (by omega)) hD (fun i x H2 R R' hx s2 k k' => ?_) (fun H2 s2 e => ?_)
  · obtain ⟨y, hy, rfl⟩ := of_map hx
    have ey : ps.getD i "" = y := by rw [List.getD_eq_getElem?_getD, hy]; rfl
    rw [ey] at k k'
    refine ⟨wk_none (n := 1) rfl, ?_⟩
    refine ⟨_, rfl, y, rfl, hle y (List.mem_of_getElem? hy), fun H3 s3 => ⟨_, rfl, ?_⟩⟩
    refine iteB (fun e => ?_) (fun e => ?_)
    · exact ⟨_, rfl, k e H3 s3⟩
    · exact k' e H3 s3
  rw [List.length_map] at e
  have s12 := s1.trans s2
  have hP2 := s2 _ _ hP
  refine ⟨D, _, rfl, .inl (SqL.of e), _, _, rfl, rfl, _, rfl, ?_⟩
  refine iteD (fun z1 => ?_) (fun z1 => ?_)
  · obtain ⟨i, hi, hp1⟩ := picked_posI z1
    refine qn (hbad ⟨ps[i], List.getElem_mem hi, ?_⟩) _ s12
    rw [List.getD_eq_getElem?_getD, List.getElem?_eq_getElem hi] at hp1
    simpa using hp1
  have hall := picked_nilI z1
  obtain ⟨a, n, G⟩ := hgood fun x hx => by
    obtain ⟨i, hi⟩ := List.getElem?_of_mem hx
    have h1 := hall i (List.getElem?_eq_some_iff.mp hi).1
    rw [List.getD_eq_getElem?_getD, hi] at h1
    simpa using h1
  have hn := G.num
  have hn4 := hn.len
  have hn9 := hn.le
  have hat0 : atI (ps.map V.str) 0 = some (.str a) := atI_nat (j := 0) (by rw [List.getElem?_map, G.at0]; rfl)
  refine ⟨fun σ H' => ∃ b : Int, σ = [some (.str w), some (.str (unsg w)), some (.ref p), some (.int b)] /\ H' = H2 /\ isCoordB w = !(negW w && decide (n = 0)) /\ fracW w = some (sgnW w n, b), ?_, ?_⟩
  · refine ⟨_, rfl, p, _, rfl, .inl (SqL.of hP2), rfl, _, rfl, ?_⟩
    rcases G.or with ⟨g1, g2, g3⟩ | ⟨g1, b, m, g2, hm, g4, g5⟩
    · refine iteD (fun y => ?_) (fun y => ?_)
      · have y : (V.int (((ps.map V.str).length : Nat) : Int)) = V.int 2 := y
        injection y with y
        rw [List.length_map] at y
        omega
      · exact ⟨1, rfl, rfl, g2, g3⟩
    · refine iteD (fun y => ?_) (fun y => ?_)
      rotate_left
      · exact absurd (show (V.int (((ps.map V.str).length : Nat) : Int)) = V.int 2 by rw [List.length_map, g1]; rfl) y
      have hm4 := hm.len
      have hat1 : atI (ps.map V.str) 1 = some (.str b) := atI_nat (j := 1) (by rw [List.getElem?_map, g2]; rfl)
      refine ⟨_, rfl, p, _, _, _, rfl, rfl, SqL.of hP2, hat1, b, (m : Int), rfl, hm.int, by omega, ?_⟩
      have no : ¬ (2 <= m /\ m <= 9 /\ Int.gcd n m = 1) -> Q .non H2 := fun y => qn (by rw [g4, decide_eq_false y]; rfl) _ s12
      refine ⟨_, rfl, _, _, rfl, rfl, _, rfl, ?_⟩
      refine iteD (fun y1 => ?_) (fun y1 => ?_)
      · exact no fun y => by have y1 : (m : Int) < 2 := y1; omega
      refine ⟨_, rfl, _, _, rfl, rfl, _, rfl, ?_⟩
      refine iteD (fun y2 => ?_) (fun y2 => ?_)
      · exact no fun y => by have y2 : (9 : Int) < (m : Int) := y2; omega
      refine ⟨_, rfl, p, _, _, _, rfl, rfl, SqL.of hP2, hat0, a, (n : Int), rfl, hn.int, by omega, _, rfl, (n : Int), (m : Int), rfl, by omega, rfl, _, rfl, ?_⟩
      refine iteND (fun y3 => ?_) (fun y3 => ?_)
      · exact no fun y => y3 (by rw [y.2.2]; rfl)
      · injection y3 with y3
        have y1 : ¬ (m : Int) < 2 := y1
        have y2 : ¬ (9 : Int) < (m : Int) := y2
        exact ⟨(m : Int), rfl, rfl, by rw [g4, decide_eq_true (show 2 <= m /\ m <= 9 /\ Int.gcd n m = 1 from ⟨by omega, by omega, by omega⟩), Bool.true_and], g5⟩
  rintro σ H3 ⟨b, rfl, eH, hc, hf⟩
  cases eH
  have eneg : (!decide (V.str (unsg w) = V.str w)) = negW w := by
    unfold negW
    by_cases y : (cs w)[0]? = some 45
    · rw [decide_eq_true y, decide_eq_false (fun z => (unsg_ne w).mp (by injection z) y)]; rfl
    · rw [decide_eq_false y, decide_eq_true (by rw [(unsg_ne w).mpr y])]; rfl
  refine ⟨fun σ H' => σ = [some (.str w), some (.str (unsg w)), some (.ref p), some (.int b)] /\ H' = H2 /\ isCoordB w = true, ?_, ?_⟩
  · refine ⟨_, rfl, _, rfl, rfl, _, rfl, ?_⟩
    rw [eneg]
    refine iteB (fun y => ?_) (fun y => ?_)
    · refine ⟨_, rfl, p, _, _, _, rfl, rfl, SqL.of hP2, hat0, a, (n : Int), rfl, hn.int, by omega, rfl, _, rfl, ?_⟩
      refine iteD (fun y1 => ?_) (fun y1 => ?_)
      · injection y1 with y1
        exact qn (by rw [hc, y, decide_eq_true (show n = 0 by omega)]; rfl) _ s12
      · exact ⟨rfl, rfl, by rw [hc, y, decide_eq_false (fun y2 => y1 (by rw [y2]; rfl))]; rfl⟩
    · exact ⟨rfl, rfl, by rw [hc, y]; rfl⟩
  rintro σ H3 ⟨rfl, eH, hct⟩
  cases eH
  refine ⟨_, rfl, p, _, _, _, rfl, rfl, SqL.of hP2, hat0, a, (n : Int), rfl, hn.int, by omega, _, rfl, (by show 2 <= sizeLine; decide), fun l hl1 => ?_⟩
  have sl := Same.new hl1 (.lst [.int 1, .int (-1)])
  refine ⟨_, rfl, _, rfl, rfl, .inr ⟨_, rfl, ?_⟩⟩
  rw [eneg]
  have hat : atI [V.int 1, V.int (-1)] (if negW w = true then 1 else 0) = some (.int (if (cs w)[0]? = some 45 then -1 else 1)) := by
    unfold negW
    by_cases y : (cs w)[0]? = some 45
    · rw [decide_eq_true y, if_pos rfl, if_pos y]; rfl
    · rw [decide_eq_false y, if_neg (by decide), if_neg y]; rfl
  refine ⟨l, _, _, _, rfl, rfl, SqL.of upd_same, hat, _, _, rfl, rfl, mul64 (by omega) (by omega) (by split <;> omega) (by split <;> omega), _, rfl, (by show 2 <= sizeLine; decide), fun t ht => ?_⟩
  have st := Same.new ht (.tup [.int (sgnW w n), .int b])
  have ht0 : H t = none := by
    cases e0 : H t with
    | none => rfl
    | some o => rw [(s12.trans sl) _ _ e0] at ht; cases ht
  exact qs t (sgnW w n, b) _ hct hf (s12.trans (sl.trans st)) ht0 upd_same
end
end Mw
namespace Mw
open PySem L2
section
variable {P : Program} {w : World} {K : PySem.W.Frag} {mg : Str -> Option Value} {base : Heap} {f : Addr} {fd : FuncData} {nt bt C_Hand C_PlainHand C_Desk X_MendError X_NoFraction X_NoPoint X_NoSide X_NoRow X_NoTable X_NoText X_NotParted X_OneSide X_TooMany X_WrongBook : Addr}
theorem sc__law_read : FnScope ["_law_lines_here", "_law_wide", "_law_found", "_law_at", "_law_line_here", "_law_words", "_law_sizes", "_law_point", "_law_side"] ["_law_lines_here"] (defScope (top 55)) := ⟨rfl, rfl, rfl, by decide +kernel, rfl, by decide +kernel, by decide +kernel⟩
theorem ok__law_read (F : Fun K "_law_read" "_law_read" (top 55) f fd) (T : Txt BN mg) (c__law_size : Cal P w K mg base 2 "_law_size" ["_law_word_here"] spSizeW) (c__law_rows : Cal P w K mg base 3 "_law_rows" ["_law_lines_here"] (spRowsG K)) : FnOk P w K mg base CX0 4 f fd ["_law_lines_here"] (spReadW K) := by
  refine F.ok sc__law_read (fun vs H Q E h => ?_) (fun cdv A outer s H vs Q E hr h => ?_)
  · obtain ⟨a, xs, rfl, _⟩ := h
    rfl
  obtain ⟨a, xs, rfl, hA, hO, q1, q2, q3⟩ := h
  refine ⟨_, (pss_cons (ps_set (i := 1) sc__law_read.nd rfl (Or.inl rfl) (pe_callB (call_lenK (K := K) rfl) rfl (T.nb "len" (by decide)) (by decide +kernel) (pa_cons (pe_bmK (K := K) rfl PySem.F.plainAttrs_str PySem.F.slot_str_split PySem.F.type_str_split mt_split (pe_ix (ix_listK (K := K) rfl) (pv 0) pe_int (fun _ _ => rfl)) (pa_cons pe_str pa_nil)) pa_nil)))
      (pss_cons (ps_set (i := 2) sc__law_read.nd rfl (Or.inl rfl) (pe_lst pa_nil))
      (pss_cons (ps_for PassesOwn.never rfl (pi_enum rfl (T.nb "enumerate" (by decide)) (pa_cons (pv 0) pa_nil)) (pg_tupK (K := K) (n := 2) rfl rfl (pgs_cons (pg_name (i := 3) sc__law_read.nd rfl (Or.inl rfl)) (pgs_cons (pg_name (i := 4) sc__law_read.nd rfl (Or.inl rfl)) pgs_nil))) (pss_cons (ps_set (i := 5) sc__law_read.nd rfl (Or.inl rfl) (pe_bmK (K := K) rfl PySem.F.plainAttrs_str PySem.F.slot_str_split PySem.F.type_str_split mt_split (pv 4) (pa_cons pe_str pa_nil)))
      (pss_cons (ps_comp (i := 6) sc__law_read.nd rfl rfl (sc := defScope (top 55)) (N := ["_law_lines_here", "_law_wide", "_law_found", "_law_at", "_law_line_here", "_law_words", "_law_sizes", "_law_point", "_law_side"]) (NB := ["_law_word_here"]) (fr := [none]) rfl (by decide +kernel) (pi_list (pe_slice (sl_listK (K := K) rfl) (pv 5) (po_some pe_int) po_none)) (fun _ _ _ _ => (pg_name (i := 0) (show (["_law_word_here"] : List Str).Nodup by decide +kernel) rfl (Or.inl rfl))) (fun _ _ _ _ => .nil) (fun _ _ _ _ => (pe_cal c__law_size (hr.mono (by decide)) rfl (pa_cons (pv 0) pa_nil))))
      (pss_cons (ps_if (PW.pt (pw_or (pt_cmpR op_gt (pv 3) pe_int (nomark _)) (pw_or (pt_cmpR op_ne (pe_callB (call_lenK (K := K) rfl) rfl (T.nb "len" (by decide)) (by decide +kernel) (pa_cons (pv 5) pa_nil)) (pv 1) (nomark _)) (pw_or (pt_cmpR op_lt (pv 1) pe_int (nomark _)) (pw_or (pt_cmpR op_gt (pv 1) pe_int (nomark _)) (pw_or (pt_cmpR (op_notInK (K := K) rfl) (pe_ix (ix_listK (K := K) rfl) (pv 5) pe_int (fun _ _ => rfl)) (pe_lst (pa_cons pe_str (pa_cons pe_str pa_nil))) (by with_unfolding_all rfl)) (pw_or1 (pt_cmpR (op_inNon (K := K) rfl hr.units8) pe_non (pv 6) (by with_unfolding_all rfl))))))))) (pss_one (ps_ret (pe_lst (pa_cons (pv 3) (pa_cons (pe_lst pa_nil) pa_nil))))) pss_nil)
      (pss_one (ps_expr (pe_bm PySem.F.plainAttrs_list PySem.F.slot_list_append PySem.F.type_list_append mt_append (pv 2) (pa_cons (pe_tup (pa_cons (pe_callTy call_intS rfl (T.nb "int" (by decide)) (by decide +kernel) (pa_cons (pe_ix (ix_listK (K := K) rfl) (pv 5) pe_int (fun _ _ => rfl)) pa_nil)) (pa_cons (pv 6) pa_nil))) pa_nil))))))))
      (pss_cons (ps_for PassesOwn.never rfl (pi_list (pe_cal c__law_rows (hr.mono (by decide)) rfl (pa_cons (pv 2) pa_nil))) (pg_tupK (K := K) (n := 2) rfl rfl (pgs_cons (pg_name (i := 7) sc__law_read.nd rfl (Or.inl rfl)) (pgs_cons (pg_name (i := 8) sc__law_read.nd rfl (Or.inl rfl)) pgs_nil))) (pss_one (ps_if (PW.pt (pw_or (pt_cmpR op_gt (pe_callB (call_maxT (K := K) rfl rfl) rfl (T.nb "max" (by decide)) (by decide +kernel) (pa_cons (pv 7) pa_nil)) pe_int (nomark _)) (pw_or1 (pt_cmpR op_lt (pe_callB (call_minT (K := K) rfl rfl) rfl (T.nb "min" (by decide)) (by decide +kernel) (pa_cons (pv 7) pa_nil)) (pe_un un_neg pe_int) (nomark _))))) (pss_one (ps_ret (pe_lst (pa_cons pe_int (pa_cons (pe_lst pa_nil) pa_nil))))) pss_nil)))
      (pss_one (ps_ret (pe_lst (pa_cons pe_non (pa_cons (pv 2) pa_nil))))))))), ?_⟩
  have hne := hO.ne
  have hmany := hO.many
  have hwl : (splW xs).length = xs.length := by unfold splW; rw [List.length_map]
  have hws : ∀ {i x}, xs[i]? = some x -> (splW xs)[i]? = some (Txt.split x ⟨#[32]⟩) := fun {i x} e => by unfold splW; rw [List.getElem?_map, e]; rfl
  obtain ⟨x0, h0⟩ : ∃ x0, xs[0]? = some x0 := ⟨_, List.getElem?_eq_getElem (List.length_pos_iff.mpr hne)⟩
  have hl0 := hO.len x0 (List.mem_of_getElem? h0)
  have hs0 := PyProof.Rows.split_le x0 " "
  have hat0 : atI (xs.map V.str) 0 = some (.str x0) := atI_nat (j := 0) (by rw [List.getElem?_map, h0]; rfl)
  refine ⟨_, rfl, a, _, _, _, rfl, rfl, hA, hat0, rfl, x0, " ", rfl, rfl, by decide +kernel, by omega, by omega, fun p0 hp0 => ?_⟩
  refine ⟨p0, _, rfl, .inl (SqL.of upd_same), ?_⟩
  have s0 := Same.new hp0 (.lst ((Txt.split x0 " ").map V.str))
  rw [List.length_map, sp_is]
  rw [sp_is] at s0
  generalize upd H p0 (.lst ((Txt.split x0 ⟨#[32]⟩).map V.str)) = H1 at *
  refine ⟨(by show 0 <= sizeLine; decide), fun G hG => ?_⟩
  refine ⟨_, rfl, a, rfl, ⟨_, (s0.trans (Same.new hG _)).seq hA⟩, ?_⟩
  refine for_enum (xs := xs.map V.str) (fun i σ H' => ∃ (v3 v4 v5 v6 : Option V) (as : List Addr), σ = [some (.ref a), some (.int (((Txt.split x0 ⟨#[32]⟩).length : Nat) : Int)), some (.ref G), v3, v4, v5, v6, none, none] /\ Same H1 H' /\ H' G = some (.lst (as.map V.ref)) /\ Paired (LX G H') as (((splW xs).take i).map lnOf) /\ ∀ j, j < i -> okL (splW xs) j = true)
    ⟨none, none, none, none, [], rfl, Same.new hG _, upd_same, .nil, fun j hj => absurd hj (by omega)⟩ (fun i σ H' _ ⟨_, _, _, _, _, _, s, _⟩ => (s0.trans s).seq hA) ?_ ?_
  · rintro i x T0 σ H' hx' hT0 ⟨v3, v4, v5, v6, as, rfl, s, hF, hP, hok⟩
    obtain ⟨x, hx, rfl⟩ := of_map hx'
    have hi : i < xs.length := (List.getElem?_eq_some_iff.mp hx).1
    have sT := Same.new hT0 (.tup [.int (i : Nat), .str x])
    have hTT : upd H' T0 (.tup [.int (i : Nat), .str x]) T0 = some (.tup [.int (i : Nat), .str x]) := upd_same
    refine ⟨T0, _, rfl, SqT.of hTT, rfl, _, _, rfl, _, _, rfl, rfl, ?_⟩
    have hxl := hO.len x (List.mem_of_getElem? hx)
    have hsl := PyProof.Rows.split_le x " "
    refine ⟨_, rfl, rfl, x, " ", rfl, rfl, by decide +kernel, by omega, by omega, fun pw hpw => ?_⟩
    rw [sp_is] at hsl ⊢
    have eL := okL_is (hws hx) (hws h0)
    have hw1 := fun w hw => PyProof.Rows.part_short (x := x) (y := ⟨#[32]⟩) (a := w) hw
    have hwp := PyProof.Rows.split_pos x ⟨#[32]⟩
    have hwx := hws hx
    generalize Txt.split x ⟨#[32]⟩ = ws at *
    have sW := Same.new hpw (.lst (ws.map V.str))
    have hW : upd (upd H' T0 (.tup [.int (i : Nat), .str x])) pw (.lst (ws.map V.str)) pw = some (.lst (ws.map V.str)) := upd_same
    have sH := sT.trans sW
    generalize upd (upd H' T0 (.tup [.int (i : Nat), .str x])) pw (.lst (ws.map V.str)) = HW at *
    obtain ⟨w0, hw0⟩ : ∃ w0, ws[0]? = some w0 := ⟨_, List.getElem?_eq_getElem (by omega)⟩
    refine ⟨_, rfl, _, rfl, pw, _, rfl, SqL.of hW, fun c hc => ?_⟩
    rw [show cutV (ws.map V.str) (some 1) none = (ws.drop 1).map V.str from cut1 ws V.str]
    have sC := Same.new hc (.lst ((ws.drop 1).map V.str))
    refine ⟨c, rfl, ⟨_, SqL.of upd_same⟩, fun D hD => ?_⟩
    refine comp_list_rel (xs := (ws.drop 1).map V.str) (fun H' j y => ∃ w, (ws.drop 1)[j]? = some w /\ ((isCoordB w = false /\ y = .non) \/ (isCoordB w = true /\ ∃ p f, y = .ref p /\ p ≠ D /\ fracW w = some f /\ H' p = some (.tup [.int f.1, .int f.2]))))
      (fun _ _ j y o ⟨w, hw, h⟩ => ⟨w, hw, h.imp id fun ⟨h1, p, f, e, h2, h3, h4⟩ => ⟨h1, p, f, e, h2, h3, o _ _ h2 h4⟩⟩) (SqL.of upd_same) (by rw [List.length_map]; exact len1000 (by rw [List.length_drop]; omega)) hD (fun j y H3 R hy s3 hD3 k => ?_) (fun ys H3 s3 hY hyl hys => ?_)
    · obtain ⟨w, hw, rfl⟩ := of_map hy
      refine ⟨wk_none (n := 1) rfl, ?_⟩
      have := hw1 w (List.mem_of_mem_drop (List.mem_of_getElem? hw))
      exact ⟨_, rfl, w, rfl, by omega, fun hc H4 s4 => k _ _ s4 ⟨w, hw, .inl ⟨hc, rfl⟩⟩, fun p f H4 hc hf s4 hp hpf => k _ _ s4 ⟨w, hw, .inr ⟨hc, p, f, rfl, fun z => hD3 (by rw [<- z]; exact hp), hf, hpf⟩⟩⟩
    have s13 := sC.trans s3
    have hW3 := s13 _ _ hW
    have sAll := s.trans (sH.trans s13)
    have hF3 := s13 _ _ (sH _ _ hF)
    have hDG : D ≠ G := fun z => by rw [z, sC _ _ (sH _ _ hF)] at hD; cases hD
    have hP3 : Paired (LX G H3) as (((splW xs).take i).map lnOf) := Paired.mapP hP fun _ _ q => q.same (sH.trans s13)
    clear hD hc sC s3
    rw [List.length_map] at hyl
    have stop : okL (splW xs) i = false -> ∀ H4, Same H3 H4 -> ∀ e, H4 e = none -> ∀ r, upd H4 e (.lst []) r = none -> Q (.ref r) (upd (upd H4 e (.lst [])) r (.lst [.int (i : Nat), .ref e])) := fun hz H4 s4 e he r hr0 =>
      q2 i r e _ ((s0.trans (sAll.trans s4)).trans ((Same.new he _).trans (Same.new hr0 _))) (by omega) hok hz upd_same
    have fin : ∀ {b : Bool} {H4}, okL (splW xs) i = b -> b = false -> Same H3 H4 -> _ := fun {b H4} e1 e2 s4 => stop (e1.trans e2) H4 s4
    unfold okW at eL
    unfold isLineB at eL
    refine ⟨_, rfl, _, _, rfl, rfl, _, rfl, ?_⟩
    refine iteD (fun z => ?_) (fun z => ?_)
    · have z1 : ¬ i < 30 := by have : (29 : Int) < (i : Int) := z; omega
      refine ⟨_, rfl, (by show 0 <= sizeLine; decide), fun e he => ⟨(by show 2 <= sizeLine; decide), fun r hr0 => ?_⟩⟩
      exact stop (by rw [eL, decide_eq_false z1]; rfl) H3 (Same.refl _) e he r hr0
    have z1 : i < 30 := by have : ¬ (29 : Int) < (i : Int) := z; omega
    rw [decide_eq_true z1, Bool.true_and] at eL
    refine ⟨_, rfl, pw, _, rfl, .inl (SqL.of hW3), _, rfl, rfl, _, rfl, ?_⟩
    refine iteND (fun y => ?_) (fun y => ?_)
    · have y1 : ¬ ws.length = (Txt.split x0 ⟨#[32]⟩).length := fun w => y (by show V.int ((ws.map V.str).length : Int) = V.int _; rw [List.length_map, w])
      refine ⟨_, rfl, (by show 0 <= sizeLine; decide), fun e he => ⟨(by show 2 <= sizeLine; decide), fun r hr0 => ?_⟩⟩
      exact stop (by rw [eL, decide_eq_false y1, Bool.and_false]) H3 (Same.refl _) e he r hr0
    have y1 : ws.length = (Txt.split x0 ⟨#[32]⟩).length := by
      have : V.int ((ws.map V.str).length : Int) = V.int (((Txt.split x0 ⟨#[32]⟩).length : Nat) : Int) := y
      rw [List.length_map] at this
      injection this with this
      omega
    rw [<- y1] at eL ⊢
    rw [decide_eq_true (show ws.length = ws.length from rfl), Bool.and_true] at eL
    refine ⟨_, rfl, _, _, rfl, rfl, _, rfl, ?_⟩
    refine iteD (fun z => ?_) (fun z => ?_)
    · have z2 : (ws.length : Int) < 2 := z
      refine ⟨_, rfl, (by show 0 <= sizeLine; decide), fun e he => ⟨(by show 2 <= sizeLine; decide), fun r hr0 => ?_⟩⟩
      exact stop (by rw [eL, decide_eq_false (show ¬ (1 <= (ws.drop 1).length /\ (ws.drop 1).length <= 4) from fun y => by rw [List.length_drop] at y; omega), Bool.and_false]; rfl) H3 (Same.refl _) e he r hr0
    have z2 : ¬ (ws.length : Int) < 2 := z
    refine ⟨_, rfl, _, _, rfl, rfl, _, rfl, ?_⟩
    refine iteD (fun z => ?_) (fun z => ?_)
    · have z3 : (5 : Int) < (ws.length : Int) := z
      refine ⟨_, rfl, (by show 0 <= sizeLine; decide), fun e he => ⟨(by show 2 <= sizeLine; decide), fun r hr0 => ?_⟩⟩
      exact stop (by rw [eL, decide_eq_false (show ¬ (1 <= (ws.drop 1).length /\ (ws.drop 1).length <= 4) from fun y => by rw [List.length_drop] at y; omega), Bool.and_false]; rfl) H3 (Same.refl _) e he r hr0
    have z3 : ¬ (5 : Int) < (ws.length : Int) := z
    rw [decide_eq_true (show 1 <= (ws.drop 1).length /\ (ws.drop 1).length <= 4 by rw [List.length_drop]; omega), Bool.and_true] at eL
    have hat : atI (ws.map V.str) 0 = some (.str w0) := atI_nat (j := 0) (by rw [List.getElem?_map, hw0]; rfl)
    refine ⟨_, rfl, pw, _, _, _, rfl, rfl, SqL.of hW3, hat, (by show 2 <= sizeLine; decide), fun pl hpl => ?_⟩
    have s4 := Same.new hpl (.lst [.str "0", .str "1"])
    refine ⟨pl, _, rfl, .inl (SqL.of upd_same), rfl, by decide, _, rfl, ?_⟩
    have e01 : (!inV (.str w0) [.str "0", .str "1"]) = !decide (ws[0]? = some ("0" : Str) \/ ws[0]? = some ("1" : Str)) := by
      rw [hw0]
      refine congrArg not ?_
      show inV (.str w0) ((["0", "1"] : List Str).map V.str) = _
      rw [inV_strs]
      refine decide_eq_decide.mpr ⟨fun m => ?_, fun m => ?_⟩
      · simp only [List.mem_cons, List.not_mem_nil, or_false] at m
        rcases m with m | m <;> rw [m]
        · exact .inl rfl
        · exact .inr rfl
      · rcases m with m | m <;> injection m with m <;> rw [m] <;> simp
    rw [show (if true then !inV (V.str w0) [V.str "0", V.str "1"] else inV (V.str w0) [V.str "0", V.str "1"]) = _ from e01]
    refine iteND (fun z => ?_) (fun z => ?_)
    · refine ⟨_, rfl, (by show 0 <= sizeLine; decide), fun e he => ⟨(by show 2 <= sizeLine; decide), fun r hr0 => ?_⟩⟩
      exact stop (by rw [eL, decide_eq_false z]; rfl) _ s4 e he r hr0
    rw [decide_eq_true z, Bool.true_and] at eL
    have hY4 := s4 _ _ hY
    have hW4 := s4 _ _ hW3
    have hF4 := s4 _ _ hF3
    have hP4 : Paired (LX G (upd H3 pl (.lst [.str "0", .str "1"]))) as (((splW xs).take i).map lnOf) := Paired.mapP hP3 fun _ _ q => q.same s4
    have hys4 : ∀ (j : Nat) y, ys[j]? = some y -> ∃ w, (ws.drop 1)[j]? = some w /\ ((isCoordB w = false /\ y = .non) \/ (isCoordB w = true /\ ∃ p f, y = .ref p /\ p ≠ D /\ fracW w = some f /\ (upd H3 pl (.lst [.str "0", .str "1"])) p = some (.tup [.int f.1, .int f.2]))) := fun j y hy => by
      obtain ⟨w, hw, h⟩ := hys j y hy
      exact ⟨w, hw, h.imp id fun ⟨h1, p, f, e, h2, h3, h4⟩ => ⟨h1, p, f, e, h2, h3, s4 _ _ h4⟩⟩
    have sAll4 := sAll.trans s4
    generalize upd H3 pl (.lst [.str "0", .str "1"]) = H4 at *
    have enon : ys.any isNon = !((ws.drop 1).all isCoordB) := by
      rw [Bool.eq_iff_iff]
      constructor
      · intro h
        obtain ⟨y, hy, hn⟩ := List.any_eq_true.mp h
        obtain ⟨j, hj⟩ := List.getElem?_of_mem hy
        obtain ⟨w, hw, ⟨hc, _⟩ | ⟨_, p, f, rfl, _⟩⟩ := hys4 j y hj
        · cases ha : (ws.drop 1).all isCoordB with
          | false => rfl
          | true => rw [List.all_eq_true.mp ha w (List.mem_of_getElem? hw)] at hc; cases hc
        · cases hn
      · intro h
        have h : (ws.drop 1).all isCoordB = false := by simpa using h
        obtain ⟨w, hw, hc⟩ := List.all_eq_false.mp h
        obtain ⟨j, hj⟩ := List.getElem?_of_mem hw
        have hjl : j < ys.length := by rw [hyl]; exact (List.getElem?_eq_some_iff.mp hj).1
        obtain ⟨w', hw', ⟨_, e⟩ | ⟨hc', _⟩⟩ := hys4 j _ (List.getElem?_eq_getElem hjl)
        · exact List.any_eq_true.mpr ⟨_, List.getElem_mem hjl, by rw [e]; rfl⟩
        · rw [hj] at hw'; cases hw'; exact absurd hc' hc
    refine ⟨_, rfl, D, ys, rfl, rfl, SqL.of hY4, fun v hv => ?_, _, rfl, ?_⟩
    · obtain ⟨j, hj⟩ := List.getElem?_of_mem hv
      obtain ⟨w, hw, ⟨_, e⟩ | ⟨_, p, f, e, _, _, h4⟩⟩ := hys4 j v hj
      · exact .inl e
      · exact .inr ⟨p, _, e, SqT.of h4⟩
    rw [enon]
    cases hb : (ws.drop 1).all isCoordB with
    | false =>
      refine iteT ?_
      refine ⟨_, rfl, (by show 0 <= sizeLine; decide), fun e he => ⟨(by show 2 <= sizeLine; decide), fun r hr0 => ?_⟩⟩
      exact stop (by rw [eL, hb]) _ s4 e he r hr0
    | true =>
      refine iteF ?_
      rw [hb] at eL
      have hall := List.all_eq_true.mp hb
      obtain ⟨ps, rfl, hps⟩ := refs_of (ys := ys) (P := fun j p => ∃ w f, (ws.drop 1)[j]? = some w /\ fracW w = some f /\ H4 p = some (.tup [.int f.1, .int f.2])) fun j y hy => by
        obtain ⟨w, hw, ⟨hc, _⟩ | ⟨_, p, f, e, _, h3, h4⟩⟩ := hys4 j y hy
        · rw [hall w (List.mem_of_getElem? hw)] at hc; cases hc
        · exact ⟨p, e, w, f, hw, h3, h4⟩
      rw [List.length_map] at hyl
      have hpf : Paired (fun b (f : Int × Int) => H4 b = some (.tup [.int f.1, .int f.2])) ps (fsOf ws) := paired_of_get (by unfold fsOf; rw [List.length_map]; exact hyl) fun j p f hp hf => by
        obtain ⟨w, g, h1, h2, h3⟩ := hps j p hp
        unfold fsOf at hf
        rw [List.getElem?_map, h1] at hf
        have : (fracW w).getD (0, 1) = f := by simpa using hf
        rw [h2] at this
        rw [<- this]; exact h3
      obtain ⟨hi0, hl0⟩ : PySem.intText? w0 = some (sideOf ws) /\ w0.length <= 640 := by
        have e : ws.headD "" = w0 := by
          cases ws with
          | nil => cases hw0
          | cons x r => simpa using hw0
        have := hw1 w0 (List.mem_of_getElem? hw0)
        refine ⟨?_, by omega⟩
        unfold sideOf numOf
        rw [e]
        rw [hw0] at z
        rcases z with z | z <;> injection z with z <;> rw [z]
        · rw [read_nat (n := 0) (by decide +kernel) (by decide)]; rfl
        · rw [read_nat (n := 1) (by decide +kernel) (by decide)]; rfl
      refine ⟨_, rfl, .inl ⟨rfl, _, SqL.of hF4⟩, _, rfl, pw, _, _, _, rfl, rfl, SqL.of hW4, hat, w0, sideOf ws, rfl, hi0, hl0, _, rfl, (by show 2 <= sizeLine; decide), fun pt hpt => ?_⟩
      have s5 := Same.new hpt (.tup [.int (sideOf ws), .ref D])
      have hF5 := s5 _ _ hF4
      have hal : as.length = i := by rw [Paired.length hP4, List.length_map, List.length_take]; omega
      refine ⟨G, _, _, rfl, rfl, hF5, by rw [List.length_map]; exact small1000 (by omega), ?_⟩
      refine ⟨_, _, _, _, as ++ [pt], rfl, (sAll4.trans s5).upd_old hG, by rw [upd_same, List.map_append]; rfl, ?_, fun j hj => ?_⟩
      · rw [List.take_add_one, hwx, List.map_append]
        refine paired_snoc (Paired.mapP hP4 fun _ _ q => (q.same s5).off hF5) ?_
        refine LX.off ⟨D, ps, hDG, upd_same, s5 _ _ hY4, Paired.mapP hpf fun _ _ q => s5 _ _ q⟩ hF5
      · by_cases hji : j = i
        · rw [hji, eL]
        · exact hok j (by omega)
  · rintro σ H' ⟨v3, v4, v5, v6, as, rfl, s, hF, hP, hok⟩
    rw [List.length_map, <- hwl] at hok
    rw [List.length_map, <- hwl, List.take_length] at hP
    have hgd := gd_ln hok
    obtain ⟨er, ef⟩ := rowsL_ln (splW xs)
    have hLn : LnsAt K H' as ((splW xs).map lnOf) := Paired.mapP hP fun _ _ q => q.at_
    refine ⟨_, rfl, G, as, _, rfl, SqL.of hF, hLn, hgd, fun r bs H5 s5 hr0 hR hRows => ?_⟩
    rw [er] at hRows
    have sA := s0.trans (s.trans s5)
    have hbl : bs.length = (rowsOf (splW xs)).length := Paired.length hRows
    refine ⟨r, rfl, ⟨_, SqL.of hR⟩, ?_⟩
    refine for_list (xs := bs.map V.ref) (fun i σ H' => ∃ (v3 v4 v5 v6 v7 v8 : Option V), σ = [some (.ref a), some (.int (((Txt.split x0 ⟨#[32]⟩).length : Nat) : Int)), some (.ref G), v3, v4, v5, v6, v7, v8] /\ H' = H5 /\ overB ((rowsOf (splW xs)).take i) = false)
      ⟨_, _, _, _, _, _, rfl, rfl, rfl⟩ (fun i σ H' _ ⟨_, _, _, _, _, _, _, e, _⟩ => by rw [e]; exact SqL.of hR) ?_ ?_
    · rintro i x σ H' hx ⟨v3, v4, v5, v6, v7, v8, rfl, eH, hov⟩
      subst eH
      obtain ⟨ra, hra, rfl⟩ := of_map hx
      obtain ⟨rw0, hr1, pa, hq1, hq2⟩ := paired_get hRows hra
      refine ⟨ra, _, rfl, hq1, rfl, _, _, rfl, _, _, rfl, rfl, ?_⟩
      have eo : overB ((rowsOf (splW xs)).take (i + 1)) = (rw0.1.any fun n => decide (1000 < (if n < 0 then -n else n))) := by
        unfold overB at hov ⊢
        rw [List.take_add_one, hr1, List.any_append, hov]
        simp
      have hpos : 0 < rw0.1.length := by
        obtain ⟨wd, w1, w4, hl⟩ := hgd.ex
        have hm : rw0 ∈ rowsL ((splW xs).map lnOf) := by rw [er]; exact List.mem_of_getElem? hr1
        unfold rowsL at hm
        obtain ⟨l, hlm, rfl⟩ := List.mem_map.mp hm
        have := (hl l hlm).cnt
        show 0 < (l.2.map _).length
        rw [List.length_map]; omega
      have stop : overB ((rowsOf (splW xs)).take (i + 1)) = true -> ∀ e, H' e = none -> ∀ r, upd H' e (.lst []) r = none -> Q (.ref r) (upd (upd H' e (.lst [])) r (.lst [.int 0, .ref e])) := fun hb e he r hr0 => by
        refine q3 r e _ (sA.trans ((Same.new he _).trans (Same.new hr0 _))) hok ?_ upd_same
        unfold overB at hb ⊢
        obtain ⟨z, hz, h⟩ := List.any_eq_true.mp hb
        exact List.any_eq_true.mpr ⟨z, List.mem_of_mem_take hz, h⟩
      refine ⟨_, rfl, pa, rw0.1, rfl, hq2, hpos, fun m hm hmx => ?_⟩
      refine ⟨_, _, rfl, rfl, _, rfl, ?_⟩
      refine iteD (fun z => ?_) (fun z => ?_)
      · have z : (1000 : Int) < m := z
        refine ⟨(by show 0 <= sizeLine; decide), fun e he => ⟨(by show 2 <= sizeLine; decide), fun r hr0 => ?_⟩⟩
        refine stop (by rw [eo]; exact List.any_eq_true.mpr ⟨m, hm, decide_eq_true (by rw [if_neg (by omega)]; exact z)⟩) e he r hr0
      have z : ¬ (1000 : Int) < m := z
      refine ⟨_, rfl, pa, rw0.1, rfl, hq2, hpos, fun n hn hmn => ?_⟩
      refine ⟨_, rfl, _, _, rfl, rfl, _, rfl, ?_⟩
      refine iteD (fun y => ?_) (fun y => ?_)
      · have y : n < (-1000 : Int) := y
        refine ⟨(by show 0 <= sizeLine; decide), fun e he => ⟨(by show 2 <= sizeLine; decide), fun r hr0 => ?_⟩⟩
        refine stop (by rw [eo]; exact List.any_eq_true.mpr ⟨n, hn, decide_eq_true (by rw [if_pos (by omega)]; omega)⟩) e he r hr0
      have y : ¬ n < (-1000 : Int) := y
      refine ⟨_, _, _, _, _, _, rfl, rfl, ?_⟩
      rw [eo]
      refine List.any_eq_false.mpr fun b hb => ?_
      have b1 := hmx b hb
      have b2 := hmn b hb
      rw [decide_eq_true_iff]
      split <;> omega
    · rintro σ H' ⟨v3, v4, v5, v6, v7, v8, rfl, eH, hov⟩
      subst eH
      rw [List.length_map, hbl, List.take_length] at hov
      refine ⟨_, rfl, (by show 2 <= sizeLine; decide), fun r hr0 => ?_⟩
      have s6 := Same.new hr0 (.lst [.non, .ref G])
      exact q1 hok hov r G as _ (sA.trans s6) upd_same ((s5.trans s6) _ _ hF) (hLn.same (s5.trans s6))
end
end Mw
namespace Mw
open PySem L2
section
variable {P : Program} {w : World} {K : PySem.W.Frag} {mg : Str -> Option Value} {base : Heap} {f : Addr} {fd : FuncData} {nt bt C_Hand C_PlainHand C_Desk X_MendError X_NoFraction X_NoPoint X_NoSide X_NoRow X_NoTable X_NoText X_NotParted X_OneSide X_TooMany X_WrongBook : Addr}
theorem sc__law_caught : FnScope ["_law_text_here", "_law_way", "_law_caught_here", "error"] ["_law_text_here", "_law_way"] (defScope (top 56)) := ⟨rfl, rfl, rfl, by decide +kernel, rfl, by decide +kernel, by decide +kernel⟩
theorem ok__law_caught (F : Fun K "_law_caught" "_law_caught" (top 56) f fd) (T : Txt BN mg) (PR : Prog K mg C_Hand C_PlainHand C_Desk X_MendError X_NoFraction X_NoPoint X_NoRow X_NoSide X_NoTable X_NoText X_NotParted X_OneSide X_TooMany X_WrongBook) (c_read_rows : CalX P w K mg base 6 "read_rows" ["text"] (spRead X_NoText)) (n_Desk : NCal P w K mg base 7 "Desk" ["self", "text"] (spDesk X_NoText)) : FnOk P w K mg base CX0 9 f fd ["_law_text_here", "_law_way"] (spCaughtT X_NoText) := by
  refine F.ok sc__law_caught (fun vs H Q E h => ?_) (fun cdv A outer s H vs Q E hr h => ?_)
  · obtain ⟨t, z, i, rfl, _⟩ := h
    rfl
  obtain ⟨t, z, i, rfl, R, q⟩ := h
  refine ⟨_, (pss_cons (ps_set (i := 2) sc__law_caught.nd rfl (Or.inl rfl) pe_non)
      (pss_cons (ps_join (ps_try (i := 3) rfl rfl rfl PR.x_MendError.g sc__law_caught.nd rfl rfl (fun _ _ => (pss_one (ps_if (pt_cmpR op_eq (pv 1) pe_int (nomark _)) (pss_one (ps_expr (pe_calG c_read_rows (hr.mono (by decide)) rfl tryC_pass (pa_cons (pv 0) pa_nil)))) (pss_one (ps_expr (pe_newG n_Desk (hr.mono (by decide)) rfl tryC_pass (pa_cons (pv 0) pa_nil))))))) (fun _ _ => (pss_one (ps_set (i := 2) sc__law_caught.nd rfl (Or.inl rfl) (pv 3))))))
      (pss_one (ps_ret (pv 2))))), ?_⟩
  refine ⟨fun σ H' => ∃ e d, σ = [some (.str t), some (.int z), some (.ref e), none] /\ Same H H' /\ H' e = some (excD X_NoText e (some d)) /\ H' d = some (.xd [("line", .int (i : Nat))]), ?_, ?_⟩
  · refine ⟨_, rfl, rfl, _, rfl, ?_⟩
    refine iteD (fun _ => ?_) (fun _ => ?_)
    · refine ⟨_, rfl, t, rfl, R.tx, fun h1 h2 => (R.r1 h1 h2).elim, fun j d H4 s4 hi hb hc hd => ?_, fun d H4 s4 h1 h2 hd => ?_⟩
      · have := R.r2 hi hb hc
        subst this
        refine ⟨X_NoText, rfl, PR.e_NoText_MendError, fun e he => ?_⟩
        have s9 := Same.new he (excD X_NoText e (some d))
        exact ⟨_, rfl, e, d, rfl, s4.trans s9, upd_same, s9 _ _ hd⟩
      · have := R.r3 h1
        subst this
        refine ⟨X_NoText, rfl, PR.e_NoText_MendError, fun e he => ?_⟩
        have s9 := Same.new he (excD X_NoText e (some d))
        exact ⟨_, rfl, e, d, rfl, s4.trans s9, upd_same, s9 _ _ hd⟩
    · refine ⟨_, rfl, t, i, rfl, R, fun d H4 s4 hd => ?_⟩
      refine ⟨X_NoText, rfl, PR.e_NoText_MendError, fun e he => ?_⟩
      have s9 := Same.new he (excD X_NoText e (some d))
      exact ⟨_, rfl, e, d, rfl, s4.trans s9, upd_same, s9 _ _ hd⟩
  rintro σ H1 ⟨e, d, rfl, s1, h1, h2⟩
  exact ⟨_, rfl, q e d H1 s1 h1 h2⟩
end
end Mw
namespace Mw
open PySem L2
section
variable {P : Program} {w : World} {K : PySem.W.Frag} {mg : Str -> Option Value} {base : Heap} {f : Addr} {fd : FuncData} {nt bt C_Hand C_PlainHand C_Desk X_MendError X_NoFraction X_NoPoint X_NoSide X_NoRow X_NoTable X_NoText X_NotParted X_OneSide X_TooMany X_WrongBook : Addr}
theorem sc__law_refused : FnScope ["_law_text_here", "_law_way", "_law_line_here", "_law_caught_here"] ["_law_text_here", "_law_way", "_law_line_here"] (defScope (top 57)) := ⟨rfl, rfl, rfl, by decide +kernel, rfl, by decide +kernel, by decide +kernel⟩
theorem ok__law_refused (F : Fun K "_law_refused" "_law_refused" (top 57) f fd) (T : Txt BN mg) (PR : Prog K mg C_Hand C_PlainHand C_Desk X_MendError X_NoFraction X_NoPoint X_NoRow X_NoSide X_NoTable X_NoText X_NotParted X_OneSide X_TooMany X_WrongBook) (c__law_caught : Cal P w K mg base 9 "_law_caught" ["_law_text_here", "_law_way"] (spCaughtT X_NoText)) : FnOk P w K mg base CX0 10 f fd ["_law_text_here", "_law_way", "_law_line_here"] spRefT := by
  refine F.ok sc__law_refused (fun vs H Q E h => ?_) (fun cdv A outer s H vs Q E hr h => ?_)
  · obtain ⟨t, z, i, rfl, _⟩ := h
    rfl
  obtain ⟨t, z, i, rfl, R, q⟩ := h
  refine ⟨_, (pss_cons (ps_set (i := 3) sc__law_refused.nd rfl (Or.inl rfl) (pe_cal c__law_caught (hr.mono (by decide)) rfl (pa_cons (pv 0) (pa_cons (pv 1) pa_nil))))
      (pss_cons (ps_if (PW.pt (pw_or (pt_cmpR op_isN (pv 3) pe_non (nomark _)) (pw_or (pt_not (pt_val (pe_callB (call_isiD (K := K) rfl) rfl (T.nb "isinstance" (by decide)) (by decide +kernel) (pa_cons (pv 3) (pa_cons (pe_cls rfl PR.x_NoText.g) pa_nil))))) (pw_or1 (pt_not (pt_val (pe_callB (call_isiD (K := K) rfl) rfl (T.nb "isinstance" (by decide)) (by decide +kernel) (pa_cons (pv 3) (pa_cons (pe_ty T "ValueError") pa_nil))))))))) (pss_one (ps_ret pe_bl)) pss_nil)
      (pss_cons (ps_if (PW.pt (pw_or (pt_val (pe_callB (call_isiD (K := K) rfl) rfl (T.nb "isinstance" (by decide)) (by decide +kernel) (pa_cons (pv 3) (pa_cons (pe_cls rfl PR.x_NoFraction.g) pa_nil)))) (pw_or (pt_val (pe_callB (call_isiD (K := K) rfl) rfl (T.nb "isinstance" (by decide)) (by decide +kernel) (pa_cons (pv 3) (pa_cons (pe_cls rfl PR.x_NoPoint.g) pa_nil)))) (pw_or1 (pt_val (pe_callB (call_isiD (K := K) rfl) rfl (T.nb "isinstance" (by decide)) (by decide +kernel) (pa_cons (pv 3) (pa_cons (pe_cls rfl PR.x_NoSide.g) pa_nil)))))))) (pss_one (ps_ret pe_bl)) pss_nil)
      (pss_cons (ps_if (PW.pt (pw_or (pt_val (pe_callB (call_isiD (K := K) rfl) rfl (T.nb "isinstance" (by decide)) (by decide +kernel) (pa_cons (pv 3) (pa_cons (pe_cls rfl PR.x_TooMany.g) pa_nil)))) (pw_or (pt_val (pe_callB (call_isiD (K := K) rfl) rfl (T.nb "isinstance" (by decide)) (by decide +kernel) (pa_cons (pv 3) (pa_cons (pe_cls rfl PR.x_NotParted.g) pa_nil)))) (pw_or1 (pt_val (pe_callB (call_isiD (K := K) rfl) rfl (T.nb "isinstance" (by decide)) (by decide +kernel) (pa_cons (pv 3) (pa_cons (pe_cls rfl PR.x_OneSide.g) pa_nil)))))))) (pss_one (ps_ret pe_bl)) pss_nil)
      (pss_cons (ps_if (PW.pt (pw_or (pt_val (pe_callB (call_isiD (K := K) rfl) rfl (T.nb "isinstance" (by decide)) (by decide +kernel) (pa_cons (pv 3) (pa_cons (pe_cls rfl PR.x_NoRow.g) pa_nil)))) (pw_or (pt_val (pe_callB (call_isiD (K := K) rfl) rfl (T.nb "isinstance" (by decide)) (by decide +kernel) (pa_cons (pv 3) (pa_cons (pe_cls rfl PR.x_WrongBook.g) pa_nil)))) (pw_or1 (pt_val (pe_callB (call_isiD (K := K) rfl) rfl (T.nb "isinstance" (by decide)) (by decide +kernel) (pa_cons (pv 3) (pa_cons (pe_cls rfl PR.x_NoTable.g) pa_nil)))))))) (pss_one (ps_ret pe_bl)) pss_nil)
      (pss_one (ps_ret (pe_and (pe_callB (call_isiK (K := K) rfl) rfl (T.nb "isinstance" (by decide)) (by decide +kernel) (pa_cons (pe_xfld (pv 3) rfl) (pa_cons (pe_ty T "int") pa_nil))) (pe_and (pe_not (pe_callB (call_isiK (K := K) rfl) rfl (T.nb "isinstance" (by decide)) (by decide +kernel) (pa_cons (pe_xfld (pv 3) rfl) (pa_cons (pe_ty T "bool") pa_nil)))) (pe_one (pe_cmpR op_eq (pe_xfld (pv 3) rfl) (pv 2) (nomark _)))))))))))), ?_⟩
  refine ⟨_, rfl, _, rfl, t, z, i, rfl, R, fun e d H1 s1 hE hD => ?_⟩
  refine ⟨_, rfl, rfl, _, rfl, ?_⟩
  refine iteD (fun y => (by cases y)) (fun _ => ?_)
  refine ⟨_, rfl, e, X_NoText, _, _, _, d, rfl, rfl, hE, PR.a_NoText, PR.k_NoText_NoText, _, rfl, iteF ?_⟩
  refine ⟨_, rfl, e, X_NoText, _, _, _, d, rfl, rfl, hE, PR.a_NoText, PR.k_NoText_ValueError, _, rfl, iteF ?_⟩
  refine ⟨_, rfl, e, X_NoText, _, _, _, d, rfl, rfl, hE, PR.a_NoText, PR.k_NoText_NoFraction, _, rfl, iteF ?_⟩
  refine ⟨_, rfl, e, X_NoText, _, _, _, d, rfl, rfl, hE, PR.a_NoText, PR.k_NoText_NoPoint, _, rfl, iteF ?_⟩
  refine ⟨_, rfl, e, X_NoText, _, _, _, d, rfl, rfl, hE, PR.a_NoText, PR.k_NoText_NoSide, _, rfl, iteF ?_⟩
  refine ⟨_, rfl, e, X_NoText, _, _, _, d, rfl, rfl, hE, PR.a_NoText, PR.k_NoText_TooMany, _, rfl, iteF ?_⟩
  refine ⟨_, rfl, e, X_NoText, _, _, _, d, rfl, rfl, hE, PR.a_NoText, PR.k_NoText_NotParted, _, rfl, iteF ?_⟩
  refine ⟨_, rfl, e, X_NoText, _, _, _, d, rfl, rfl, hE, PR.a_NoText, PR.k_NoText_OneSide, _, rfl, iteF ?_⟩
  refine ⟨_, rfl, e, X_NoText, _, _, _, d, rfl, rfl, hE, PR.a_NoText, PR.k_NoText_NoRow, _, rfl, iteF ?_⟩
  refine ⟨_, rfl, e, X_NoText, _, _, _, d, rfl, rfl, hE, PR.a_NoText, PR.k_NoText_WrongBook, _, rfl, iteF ?_⟩
  refine ⟨_, rfl, e, X_NoText, _, _, _, d, rfl, rfl, hE, PR.a_NoText, PR.k_NoText_NoTable, _, rfl, iteF ?_⟩
  refine ⟨_, rfl, e, X_NoText, d, _, (i : Nat), rfl, hE, hD, PR.i_NoText.p, rfl, _, _, _, _, _, rfl, rfl, TyOf.int _, kt_int, _, rfl, iteT ?_⟩
  refine ⟨_, rfl, e, X_NoText, d, _, (i : Nat), rfl, hE, hD, PR.i_NoText.p, rfl, _, _, _, _, _, rfl, rfl, TyOf.int _, kt_bool, _, rfl, _, rfl, iteT ?_⟩
  refine ⟨_, rfl, e, X_NoText, d, _, (i : Nat), rfl, hE, hD, PR.i_NoText.p, rfl, _, rfl, rfl, ?_⟩
  rw [decide_eq_true rfl]
  exact q H1 s1
end
end Mw
namespace Mw
open PySem L2
section
variable {P : Program} {w : World} {K : PySem.W.Frag} {mg : Str -> Option Value} {base : Heap} {f : Addr} {fd : FuncData} {nt bt C_Hand C_PlainHand C_Desk X_MendError X_NoFraction X_NoPoint X_NoSide X_NoRow X_NoTable X_NoText X_NotParted X_OneSide X_TooMany X_WrongBook : Addr}
theorem sc__law_no_text : FnScope [] [] (defScope (top 58)) := ⟨rfl, rfl, rfl, by decide +kernel, rfl, by decide +kernel, by decide +kernel⟩
theorem ok__law_no_text (F : Fun K "_law_no_text" "_law_no_text" (top 58) f fd) (T : Txt BN mg) (c__law_refused : Cal P w K mg base 10 "_law_refused" ["_law_text_here", "_law_way", "_law_line_here"] spRefT) : FnOk P w K mg base CX0 11 f fd [] spNoTx := by
  refine F.ok sc__law_no_text (fun vs H Q E h => ?_) (fun cdv A outer s H vs Q E hr h => ?_)
  · obtain ⟨rfl, _⟩ := h
    rfl
  obtain ⟨rfl, q⟩ := h
  refine ⟨_, (pss_one (ps_ret (pe_and (pe_cal c__law_refused (hr.mono (by decide)) rfl (pa_cons pe_str (pa_cons pe_int (pa_cons pe_int pa_nil)))) (pe_one (pe_cal c__law_refused (hr.mono (by decide)) rfl (pa_cons pe_str (pa_cons pe_int (pa_cons pe_int pa_nil)))))))), ?_⟩
  refine ⟨"", 0, 0, rfl, ref_empty, fun H1 s1 => ⟨_, rfl, iteT ?_⟩⟩
  exact ⟨"", 1, 0, rfl, ref_empty, fun H2 s2 => q H2 (s1.trans s2)⟩
end
end Mw
namespace Mw
open PySem L2
section
variable {P : Program} {w : World} {K : PySem.W.Frag} {mg : Str -> Option Value} {base : Heap} {f : Addr} {fd : FuncData} {nt bt C_Hand C_PlainHand C_Desk X_MendError X_NoFraction X_NoPoint X_NoSide X_NoRow X_NoTable X_NoText X_NotParted X_OneSide X_TooMany X_WrongBook : Addr}
theorem sc_law : FnScope ["_law_script", "_law_lines_here", "_law_k", "_law_number", "_law_some", "_law_text_here", "_law_line_here", "_law_good"] ["_law_script"] (defScope (top 59)) := ⟨rfl, rfl, rfl, by decide +kernel, rfl, by decide +kernel, by decide +kernel⟩
theorem ok_law (F : Fun K "law" "law" (top 59) f fd) (T : Txt BN mg) (c__law_lines : Cal P w K mg base 4 "_law_lines" ["_law_script", "_law_first"] (spLinesD K)) (c__law_text : Cal P w K mg base 3 "_law_text" ["_law_lines_here"] (spTextN K)) (c__law_cell_at : Cal P w K mg base 1 "_law_cell_at" ["_law_script", "_law_k"] (spCell K)) (c__law_mixed : Cal P w K mg base 1 "_law_mixed" ["_law_cell", "_law_k"] spMixD) (c__law_spoiled : Cal P w K mg base 2 "_law_spoiled" ["_law_lines_here", "_law_number"] (spSpoil K)) (c__law_read : Cal P w K mg base 4 "_law_read" ["_law_lines_here"] (spReadW K)) (c__law_refused : Cal P w K mg base 10 "_law_refused" ["_law_text_here", "_law_way", "_law_line_here"] spRefT) (c_read_rows : CalX P w K mg base 6 "read_rows" ["text"] (spRead nt)) (c__law_unit : Cal P w K mg base 2 "_law_unit" ["_law_lines_here"] (spUnitG K)) (c__law_rows : Cal P w K mg base 3 "_law_rows" ["_law_lines_here"] (spRowsG K)) (c__law_no_text : Cal P w K mg base 11 "_law_no_text" [] spNoTx) : FnOk P w K mg base CX0 12 f fd ["_law_script"] (spLaw K) := by
  refine F.ok sc_law (fun vs H Q E h => ?_) (fun cdv A outer s H vs Q E hr h => ?_)
  · obtain ⟨a, ns, rfl, _⟩ := h
    rfl
  obtain ⟨a, ns, rfl, hS, h63, q⟩ := h
  refine ⟨_, (pss_cons (ps_set (i := 1) sc_law.nd rfl (Or.inl rfl) (pe_bmK (K := K) rfl PySem.F.plainAttrs_str PySem.F.slot_str_split PySem.F.type_str_split mt_split (pe_cal c__law_text (hr.mono (by decide)) rfl (pa_cons (pe_cal c__law_lines (hr.mono (by decide)) rfl (pa_cons (pv 0) (pa_conE pe_int pa_nil))) pa_nil)) (pa_conE pe_str pa_nil)))
      (pss_cons (ps_for PassesOwn.never rfl (pi_range1 rfl (T.nb "range" (by decide)) (pa_conE pe_int pa_nil)) (pg_name (i := 2) sc_law.nd rfl (Or.inl rfl)) (pss_cons (ps_set (i := 3) sc_law.nd rfl (Or.inl rfl) (pe_cal c__law_mixed (hr.mono (by decide)) rfl (pa_cons (pe_cal c__law_cell_at (hr.mono (by decide)) rfl (pa_cons (pv 0) (pa_cons (pv 2) pa_nil))) (pa_cons (pe_op op_add pe_int (pv 2)) pa_nil))))
      (pss_cons (ps_set (i := 4) sc_law.nd rfl (Or.inl rfl) (pe_cal c__law_spoiled (hr.mono (by decide)) rfl (pa_cons (pv 1) (pa_cons (pv 3) pa_nil))))
      (pss_cons (ps_join (ps_if (pt_cmpR op_eq (pe_op op_mod (pe_op op_fdivP (pv 3) pe_int) pe_int) pe_int (nomark _)) (pss_one (ps_set (i := 4) sc_law.nd rfl (Or.inl rfl) (pe_cal c__law_spoiled (hr.mono (by decide)) rfl (pa_cons (pv 4) (pa_cons (pe_cal c__law_mixed (hr.mono (by decide)) rfl (pa_cons (pv 3) (pa_cons (pv 2) pa_nil))) pa_nil))))) pss_nil))
      (pss_cons (ps_set (i := 5) sc_law.nd rfl (Or.inl rfl) (pe_bmK (K := K) rfl PySem.F.plainAttrs_str PySem.F.slot_str_join PySem.F.type_str_join (mt_joinK (K := K) rfl) pe_str (pa_cons (pv 4) pa_nil)))
      (pss_cons (ps_asg (pe_cal c__law_read (hr.mono (by decide)) rfl (pa_cons (pv 4) pa_nil)) (pg_lstK (K := K) (n := 2) rfl rfl (pgs_cons (pg_name (i := 6) sc_law.nd rfl (Or.inl rfl)) (pgs_cons (pg_name (i := 7) sc_law.nd rfl (Or.inl rfl)) pgs_nil))))
      (pss_one (ps_if (pt_cmpR op_notN (pv 6) pe_non (nomark _)) (pss_one (ps_if (PW.pt (pw_or (pt_not (pt_val (pe_cal c__law_refused (hr.mono (by decide)) rfl (pa_cons (pv 5) (pa_conE pe_int (pa_cons (pv 6) pa_nil)))))) (pw_or1 (pt_not (pt_val (pe_cal c__law_refused (hr.mono (by decide)) rfl (pa_cons (pv 5) (pa_conE pe_int (pa_cons (pv 6) pa_nil))))))))) (pss_one (ps_ret pe_bl)) pss_nil)) (pss_one (ps_if (pt_cmpR (op_neDeep 4 (K := K) rfl hr.units8 (by decide)) (pe_calG c_read_rows (hr.mono (by decide)) rfl passG_never (pa_cons (pv 5) pa_nil)) (pe_tup (pa_cons (pe_cal c__law_unit (hr.mono (by decide)) rfl (pa_cons (pv 7) pa_nil)) (pa_cons (pe_cal c__law_rows (hr.mono (by decide)) rfl (pa_cons (pv 7) pa_nil)) pa_nil))) (nomark _)) (pss_one (ps_ret pe_bl)) pss_nil))))))))))
      (pss_one (ps_ret (pe_and (pe_cmpR (op_eqDeep 3 (K := K) rfl hr.units8 (by decide)) (pe_ix (ix_tupK (K := K) rfl) (pe_calG c_read_rows (hr.mono (by decide)) rfl passG_never (pa_cons (pe_bmK (K := K) rfl PySem.F.plainAttrs_str PySem.F.slot_str_join PySem.F.type_str_join (mt_joinK (K := K) rfl) pe_str (pa_cons (pv 1) pa_nil)) pa_nil)) pe_int (fun _ _ => rfl)) (pe_cal c__law_rows (hr.mono (by decide)) rfl (pa_cons (pe_cal c__law_lines (hr.mono (by decide)) rfl (pa_cons (pv 0) (pa_conE pe_int pa_nil))) pa_nil)) (nomark _)) (pe_one (pe_cal0 c__law_no_text (hr.mono (by decide)) rfl))))))), ?_⟩
  refine ⟨_, rfl, a, ns, 3, rfl, by decide, hS, h63, fun r as ls H1 s1 hr0 hR hLs hOk els => ?_⟩
  refine ⟨r, as, ls, rfl, SqL.of hR, hLs, hOk, fun H2 s2 => ?_⟩
  have hX := hOk.spl
  have eT : Str.join ⟨#[10]⟩ (ls.map lineTxt) = textOf ls := rfl
  have hTx := hX.tx (by decide)
  have hsp := hX.split
  rw [eT] at hTx hsp
  have hc1 := hTx.len
  have hc2 := hTx.many
  refine ⟨rfl, textOf ls, "\n", rfl, rfl, by decide +kernel, by omega, by rw [nl_is]; omega, fun L hL => ?_⟩
  rw [nl_is, hsp]
  have s3 := Same.new hL (.lst ((ls.map lineTxt).map V.str))
  have hL3 : upd H2 L (.lst ((ls.map lineTxt).map V.str)) L = some (.lst ((ls.map lineTxt).map V.str)) := upd_same
  have s03 := s1.trans (s2.trans s3)
  have hS3 := s03.seq hS
  generalize upd H2 L (.lst ((ls.map lineTxt).map V.str)) = H3 at *
  refine ⟨3, rfl, by decide, by decide, ?_⟩
  refine for_range (lo := 0) (n := 3) (fun i σ H' => ∃ v2 v3 v4 v5 v6 v7 : Option V, σ = [some (.ref a), some (.ref L), v2, v3, v4, v5, v6, v7] /\ Same H3 H') ⟨_, _, _, _, _, _, rfl, Same.refl _⟩ ?_ ?_
  · rintro i σ H' hi ⟨v2, v3, v4, v5, v6, v7, rfl, s⟩
    refine ⟨_, rfl, _, rfl, a, ns, _, rfl, s.seq hS3, by omega, _, rfl, _, _, rfl, rfl, _, _, rfl, by omega, by omega, ?_⟩
    refine ⟨_, rfl, _, rfl, L, _, 0, _, rfl, s _ _ hL3, hX, by decide, fun r1 ys H4 s4 hr1 hy => ?_⟩
    refine ⟨fun σ H' => ∃ (r2 : Addr) (zs : List Str) (n : Int), σ = [some (.ref a), some (.ref L), some (.int (0 + (i : Nat))), some (.int n), some (.ref r2), v5, v6, v7] /\ Same H3 H' /\ H' r2 = some (.lst (zs.map V.str)) /\ SpL 2 zs, ?_, ?_⟩
    · refine ⟨_, rfl, _, _, rfl, rfl, div64 (by decide) (by decide), _, _, rfl, rfl, (by show (0 : Int) < 3; decide), rfl, _, rfl, ?_⟩
      refine iteD (fun _ => ?_) (fun _ => ?_)
      · refine ⟨_, rfl, _, rfl, _, rfl, _, _, rfl, by omega, by omega, r1, _, 1, ys, rfl, hr1, hy, by decide, fun r2 zs H5 s5 hr2 hz => ?_⟩
        exact ⟨r2, zs, _, rfl, s.trans (s4.trans s5), hr2, hz⟩
      · exact ⟨r1, ys, _, rfl, s.trans s4, hr1, hy.mono⟩
    rintro σ H5 ⟨r2, zs, n, rfl, s5, hr2, hz⟩
    refine ⟨rfl, _, rfl, "\n", r2, zs, rfl, rfl, SqL.of hr2, ?_, ?_⟩
    · rw [nl_is]; exact hz.joins (by decide)
    rw [nl_is]
    have hzx := hz.tx (by decide)
    have hzw := hz.words
    generalize Str.join ⟨#[10]⟩ zs = t at *
    have ref : ∀ {j : Nat} {H6 : Hp} {Q1 : VK}, RefT t j -> Same H3 H6 -> True := fun _ _ => trivial
    refine ⟨_, rfl, r2, zs, rfl, SqL.of hr2, hz.lines (by decide), fun hok hov rr G fs H6 s6 hrr hG hLn => ?_, fun j rr e H6 s6 hj hb hc hrr => ?_, fun rr e H6 s6 hok hov hrr => ?_⟩
    · refine ⟨rr, _, rfl, SqL.of hrr, rfl, _, _, rfl, _, _, rfl, rfl, ?_⟩
      refine ⟨_, rfl, rfl, _, rfl, ?_⟩
      refine iteND (fun y => absurd rfl y) (fun _ => ?_)
      have hgd := gd_ln hok
      obtain ⟨er, ef⟩ := rowsL_ln (splW zs)
      refine ⟨_, rfl, t, rfl, hzx, fun _ _ p f fa H7 s7 hp0 hf0 hpf hP hF hX7 => ?_, fun j d H7 s7 hi _ hc _ => absurd (hok j (by rw [<- hzw]; exact hi)) (by rw [<- hzw, hc]; decide), fun d H7 s7 _ ho _ => absurd hov (by rw [<- hzw, ho]; decide)⟩
      rw [hzw] at hP hX7
      refine ⟨_, rfl, G, fs, _, rfl, SqL.of (s7 _ _ hG), hLn.same s7, hgd, ?_⟩
      refine ⟨_, rfl, G, fs, _, rfl, SqL.of (s7 _ _ hG), hLn.same s7, hgd, fun r8 bs H8 s8 hr8 hR8 hRows => ?_⟩
      rw [er] at hRows
      rw [ef]
      refine ⟨(by show 2 <= sizeLine; decide), fun pt hpt => ?_⟩
      have s9 := Same.new hpt (.tup [.int (unitF (fssOf (splW zs))), .ref r8])
      have hF9 := (s8.trans s9) _ _ hF
      have hX9 : RowsAt K _ fa (rowsOf (splW zs)) := (hX7.same (s8.trans s9)).rows
      have hR9 := s9 _ _ hR8
      have hRow9 : RowsAt K _ bs (rowsOf (splW zs)) := RowsAt.same s9 hRows
      refine ⟨⟨p, pt, _, _, rfl, rfl, .inr ⟨SqT.of ((s8.trans s9) _ _ hP), SqT.of upd_same⟩, .cons (Deep.same rfl) (.cons (.inr ⟨f, r8, _, _, rfl, rfl, .inl ⟨SqL.of hF9, SqL.of hR9⟩, rowsAt_deep hX9 hRow9⟩) .nil)⟩, _, rfl, iteF ?_⟩
      exact ⟨_, _, _, _, _, _, rfl, s5.trans (s6.trans (s7.trans (s8.trans s9)))⟩
    · have RT : RefT t j := ⟨hzx, .inl ⟨by rw [hzw]; exact hj, fun l hl => by rw [hzw]; exact hb l hl, by rw [hzw]; exact hc⟩⟩
      refine ⟨rr, _, rfl, SqL.of hrr, rfl, _, _, rfl, _, _, rfl, rfl, ?_⟩
      refine ⟨_, rfl, rfl, _, rfl, ?_⟩
      refine iteND (fun _ => ?_) (fun y => (by cases y))
      refine ⟨_, rfl, _, rfl, t, 0, j, rfl, RT, fun H7 s7 => ⟨_, rfl, iteF ?_⟩⟩
      refine ⟨_, rfl, _, rfl, t, 1, j, rfl, RT, fun H8 s8 => ⟨_, rfl, iteF ?_⟩⟩
      exact ⟨_, _, _, _, _, _, rfl, s5.trans (s6.trans (s7.trans s8))⟩
    · have RT : RefT t 0 := ⟨hzx, .inr ⟨fun l hl => by rw [hzw] at hl ⊢; exact hok l hl, by rw [hzw]; exact hov, rfl⟩⟩
      refine ⟨rr, _, rfl, SqL.of hrr, rfl, _, _, rfl, _, _, rfl, rfl, ?_⟩
      refine ⟨_, rfl, rfl, _, rfl, ?_⟩
      refine iteND (fun _ => ?_) (fun y => (by cases y))
      refine ⟨_, rfl, _, rfl, t, 0, 0, rfl, RT, fun H7 s7 => ⟨_, rfl, iteF ?_⟩⟩
      refine ⟨_, rfl, _, rfl, t, 1, 0, rfl, RT, fun H8 s8 => ⟨_, rfl, iteF ?_⟩⟩
      exact ⟨_, _, _, _, _, _, rfl, s5.trans (s6.trans (s7.trans s8))⟩
  · rintro σ H' ⟨v2, v3, v4, v5, v6, v7, rfl, s⟩
    refine ⟨rfl, _, rfl, "\n", L, ls.map lineTxt, rfl, rfl, SqL.of (s _ _ hL3), ?_, ?_⟩
    · rw [nl_is]; exact hX.joins (by decide)
    rw [nl_is, eT]
    have RD : RdT (textOf ls) _ := RdOk.t hOk.rd rfl
    refine ⟨textOf ls, rfl, RD.tx, fun _ _ p f fa H7 s7 _ _ _ hP hF hX7 => ?_, fun _ _ _ _ hi _ hc _ => absurd (RD.w1 _ hi) (by rw [hc]; decide), fun _ _ _ _ hov _ => absurd hov (by rw [RD.w3, RD.ov]; decide)⟩
    rw [RD.w2] at hP
    rw [RD.w3] at hX7
    refine ⟨p, _, _, _, rfl, rfl, SqT.of hP, rfl, ?_⟩
    refine ⟨_, rfl, a, ns, 3, rfl, by decide, (s.trans s7).seq hS3, h63, fun r' as' ls' H8 s8 hr0' hR' hLs' hOk' els' => ?_⟩
    rw [<- els] at els'
    subst els'
    refine ⟨r', as', _, rfl, SqL.of hR', hLs', hOk'.gd, fun r9 bs H9 s9 hr9 hR9 hRows => ?_⟩
    refine ⟨⟨f, r9, _, _, rfl, rfl, .inl ⟨SqL.of ((s8.trans s9) _ _ hF), SqL.of hR9⟩, rowsAt_deep (hX7.same (s8.trans s9)).rows hRows⟩, _, rfl, iteT ?_⟩
    exact ⟨rfl, fun H10 s10 => q H10⟩
end
end Mw
namespace Mw
open PySem L2
section
variable {P : Program} {w : World} {K : PySem.W.Frag} {mg : Str -> Option Value} {base : Heap} {f : Addr} {fd : FuncData} {nt bt C_Hand C_PlainHand C_Desk X_MendError X_NoFraction X_NoPoint X_NoSide X_NoRow X_NoTable X_NoText X_NotParted X_OneSide X_TooMany X_WrongBook : Addr}
theorem sc_NoText___init__ : FnScope ["self", "line"] ["self", "line"] (defScope (mem 12 0)) := ⟨rfl, rfl, rfl, by decide +kernel, rfl, by decide +kernel, by decide +kernel⟩
theorem ok_NoText___init__ (F : Fun K "__init__" "NoText.__init__" (mem 12 0) f fd) (T : Txt BN mg) (WL : ExcS K nt "line") : FnOk P w K mg base (CXE P w) 1 f fd ["self", "line"] (SpX nt "line") := by
  refine F.okX sc_NoText___init__ (fun vs H Q E h => ?_) (fun cdv A outer s H vs Q E hr h => ?_)
  · obtain ⟨a, v, rfl, _⟩ := h
    rfl
  obtain ⟨a, v, rfl, hA, q⟩ := h
  refine ⟨_, (pss_one (ps_xset (pv 0) (pv 1) rfl)), ?_⟩
  exact ⟨_, rfl, _, rfl, a, nt, rfl, hA, WL, fun d hd => q d hd⟩
end
end Mw
namespace Mw
open PySem L2
section
variable {P : Program} {w : World} {K : PySem.W.Frag} {mg : Str -> Option Value} {base : Heap} {f : Addr} {fd : FuncData} {nt bt C_Hand C_PlainHand C_Desk X_MendError X_NoFraction X_NoPoint X_NoSide X_NoRow X_NoTable X_NoText X_NotParted X_OneSide X_TooMany X_WrongBook : Addr}
theorem sc_Desk___init__ : FnScope ["self", "text"] ["self", "text"] (defScope (mem 38 0)) := ⟨rfl, rfl, rfl, by decide +kernel, rfl, by decide +kernel, by decide +kernel⟩
theorem ok_Desk___init__ (F : Fun K "__init__" "Desk.__init__" (mem 38 0) f fd) (T : Txt BN mg) (c_read_rows : CalX P w K mg base 6 "read_rows" ["text"] (spRead nt)) : FnOk P w K mg base (CXE P w) 7 f fd ["self", "text"] (SpInit C_Desk (spDesk nt)) := by
  refine F.okX sc_Desk___init__ (fun vs H Q E h => ?_) (fun cdv A outer s H vs Q E hr h => ?_)
  · obtain ⟨x, dx, us, H1, rfl, _, _, _, _, t, i, rfl, _⟩ := h
    rfl
  obtain ⟨x, dx, us, H1, rfl, hx, hdx, hne, rfl, t, i, rfl, R, hE⟩ := h
  refine ⟨_, (pss_cons (ps_fld (pv 0) (pe_ix (ix_tupK (K := K) rfl) (pe_calG c_read_rows (hr.mono (by decide)) rfl passG_out (pa_cons (pv 1) pa_nil)) pe_int (fun _ _ => rfl)) rfl)
      (pss_one ps_never)), ?_⟩
  have s0 : Same H1 (upd (upd H1 dx (.own x)) x (.ins C_Desk dx [])) := (Same.new hdx _).trans (Same.new (by rw [upd_ne (fun z => hne z.symm)]; exact hx) _)
  refine ⟨_, rfl, t, rfl, R.tx, fun h1 h2 => (R.r1 h1 h2).elim, fun j d H4 s4 hi hb hc hd => ?_, fun d H4 s4 h1 h2 hd => ?_⟩
  · have := R.r2 hi hb hc
    subst this
    exact hE d H4 (s0.trans s4) hd
  · have := R.r3 h1
    subst this
    exact hE d H4 (s0.trans s4) hd
end
end Mw
namespace Mw
open PySem L2
theorem consts {K : PySem.W.Frag} {mg : Str -> Option Value} {bt : Addr} {o : Obj} {its : Array Value} {n t1 t2 t3 t4 t5 : Nat} (h1 : mg "MOST_LINES" = some (.int 30 t1)) (h2 : mg "MOST_COORDINATES" = some (.int 4 t2)) (h3 : mg "MOST_FIGURES" = some (.int 4 t3)) (h4 : mg "REACH" = some (.int 1000 t4)) (h5 : mg "FIGURES" = some (.str "0123456789" t5)) (h6 : mg "BOTTOMS" = some (.ref bt)) (hl : K.lookup bt = some o) (hc : o.cls = .type "tuple") (hd : o.data = .seq its n) (hs : its.size <= sizeLine) (hv : Vals (botS.map V.str) its.toList) : Consts K mg bt :=
  ⟨⟨_, h1, _, rfl⟩, ⟨_, h2, _, rfl⟩, ⟨_, h3, _, rfl⟩, ⟨_, h4, _, rfl⟩, ⟨_, h5, _, rfl⟩, ⟨_, h6, rfl⟩, fun _ => .inr ⟨o, its, n, hl, hc, hd, hs, hv⟩⟩
theorem no_text {P : Program} {w : World} {K : PySem.W.Frag} {mg : Str -> Option Value} {base : Heap} {C_Hand C_PlainHand C_Desk X_MendError X_NoFraction X_NoPoint X_NoRow X_NoSide X_NoTable X_NoText X_NotParted X_OneSide X_TooMany X_WrongBook : Addr} (PR : Prog K mg C_Hand C_PlainHand C_Desk X_MendError X_NoFraction X_NoPoint X_NoRow X_NoSide X_NoTable X_NoText X_NotParted X_OneSide X_TooMany X_WrongBook) (T : Txt BN mg) : XCal P w K mg base 2 "NoText" X_NoText "line" := by
  obtain ⟨f, fd, M, F⟩ := PR.m_NoText___init__.ex
  exact ⟨PR.i_NoText, f, fd, _, M, (ok_NoText___init__ F T PR.i_NoText.s).mono (by decide), F.binds (fun _ _ _ _ _ _ => L2.len2 fun _ _ => rfl)⟩
theorem desk_new {P : Program} {w : World} {K : PySem.W.Frag} {mg : Str -> Option Value} {base : Heap} {C_Hand C_PlainHand C_Desk X_MendError X_NoFraction X_NoPoint X_NoRow X_NoSide X_NoTable X_NoText X_NotParted X_OneSide X_TooMany X_WrongBook : Addr} (PR : Prog K mg C_Hand C_PlainHand C_Desk X_MendError X_NoFraction X_NoPoint X_NoRow X_NoSide X_NoTable X_NoText X_NotParted X_OneSide X_TooMany X_WrongBook) (T : Txt BN mg) (c : CalX P w K mg base 6 "read_rows" ["text"] (spRead X_NoText)) : NCal P w K mg base 7 "Desk" ["self", "text"] (spDesk X_NoText) :=
  PR.c_Desk.new PR.m_Desk___init__ (fun _ _ _ _ _ _ => L2.len2 fun _ _ => rfl) (spDesk_mono _) fun f fd F => ok_Desk___init__ F T c
end Mw
namespace PySem.W.Fast
def tw7958983387108469260 := 0
def tw12880795520766924837 := 0
def tw1595562451413154081 := 0
def tw1331232666372838572 := 0
def tw3293573403693370440 := 0
def tw1243584207317787248 := 0
def tw586806032392787216 := 0
def tw15789810801144707005 := 0
def tw7785113802048720984 := 0
def tw3115876507812361646 := 0
def tw7169206531790382063 := 0
def tw3007648246063157759 := 0
def tw6501813027000709948 := 0
def tw5771087252798328821 := 0
def tw15561011513554431746 := 0
def tw123327278414669169 := 0
def tw13984934201446877526 := 0
def tw1788825788903914339 := 0
def tw14353859710611322599 := 0
def tw8036825811204761708 := 0
def tw18431663855441692233 := 0
def tw8040557263515683983 := 0
def tw8444930182090163608 := 0
def tw5045967119187593121 := 0
def tw8825438835767580568 := 0
def tw675866121003069995 := 0
def tw2103214507512696012 := 0
def tw6564545141872660239 := 0
def tw15350929300457483394 := 0
def tw7888738442075970905 := 0
def tw11688859948353310743 := 0
def tw7936654360676101076 := 0
def tw15565658195208081188 := 0
def tw250765035562907563 := 0
def tw16867251783003605504 := 0
def tw14025378818562799640 := 0
def tw10286115451684067597 := 0
def tw836921194443588378 := 0
def tw12170891394470585609 := 0
def tw1062352160306853428 := 0
def tw2324808199991816426 := 0
def tw2397332415288734923 := 0
def tw3413932865409418361 := 0
def tw13886851133475949495 := 0
def tw13264168073412234978 := 0
def tw2554332089568066875 := 0
def tw14162497733584916796 := 0
def tw955119321953294338 := 0
def tw9197886540259930551 := 0
def tw9120106224148316767 := 0
def tw14640237222516256285 := 0
def tw10399825071804554487 := 0
def tw8877234527036258427 := 0
def tw14076394002366009911 := 0
def tw14993268857539614068 := 0
def tw16168066155794783131 := 0
def tw11361310155158701250 := 0
def tw11889063449891044819 := 0
def tw1246694193902361376 := 0
def tw12423386750649994750 := 0
def tw16010233731139529849 := 0
def tw8188170682145572030 := 0
def tw1569548061073045600 := 0
def tw2504521995360172440 := 0
def tw9072757425099418293 := 0
def tw9235924757016630693 := 0
def tw8710978865908510701 := 0
def tw7515565002620306802 := 0
def tw6898571914462755442 := 0
def tw13409306979692731953 := 0
def tw11241804366564104721 := 0
def tw17004700818815323958 := 0
def tw10068891093524367591 := 0
def tw16674469344007448676 := 0
def tw17652908843410320700 := 0
def tw14048118274312500370 := 0
def tw18005788892586119267 := 0
def tw2538703833881093868 := 0
def tw18109014207097772849 := 0
def tw10003068557567183098 := 0
def tw16044952256468879491 := 0
def tw2632165080528400713 := 0
def tw9463935817824832085 := 0
def tw328182273717094172 := 0
def tw9474954988543907633 := 0
def tw12135581916026026293 := 0
def tw3265557872578280748 := 0
def tw11022633619945503575 := 0
def tw5354271491948330962 := 0
def tw15514615479201197866 := 0
def tw5589466584077361208 := 0
def tw5036085572914119651 := 0
def tw7080622009379883411 := 0
def tw4726768783058848522 := 0
def tw8473838918688689544 := 0
def tw5167331043480955349 := 0
def tw8800937266552326713 := 0
def tw4660515779835647319 := 0
def tw9678515833519830163 := 0
def tw460397107002225072 := 0
def tw5042903540686016297 := 0
def tw1310977671688677164 := 0
def tw12043004068465801592 := 0
def tw13031721177685810014 := 0
def tw919261861628033100 := 0
def tw16438924783357804926 := 0
def tw16483562317351015886 := 0
def tw1314085825711771889 := 0
def tw1097848840131581957 := 0
def tw3795997410275110682 := 0
def tw10595655088544116953 := 0
def tw2059688994934652 := 0
def tw10575621099678444496 := 0
def tw8007388224461541404 := 0
def tw10929995952574244253 := 0
def tw3368103433668888155 := 0
def tw7548053041949702013 := 0
def tw13937914798783079678 := 0
def tw7203795720679823954 := 0
def tw4718487578028166995 := 0
def tw17937443989947710458 := 0
def tw9569056999026540804 := 0
def tw10641181385650954303 := 0
def tw14540416854408919831 := 0
def tw15818314937991816094 := 0
def tw12184081140842906684 := 0
def tw4380676821490003484 := 0
def tw13831934789529841636 := 0
def tw3103420951758003782 := 0
def tw2801955092549171848 := 0
def tw12489802123354505251 := 0
def tw3110258480756742695 := 0
def tw1953782807412044813 := 0
def tw925459355246053969 := 0
def tw11901856230798285351 := 0
def tw2699881167597720875 := 0
def tw12105637446925526845 := 0
def tw11476282391681354328 := 0
def tw12418250525637675129 := 0
def tw7537341476011110786 := 0
def tw18213443404177772463 := 0
def tw11206408262749995857 := 0
def tw16921561851436310936 := 0
def tw17558012138160264205 := 0
def tw3244033949385345132 := 0
def tw869835708402952673 := 0
def tw7582523292850413356 := 0
def tw12228185634539016848 := 0
def tw11820798554295811551 := 0
def tw17252356602815278401 := 0
def tw12455187179091437505 := 0
def tw4433905986504825136 := 0
def tw4098731603387822037 := 0
def tw8054425694448484891 := 0
def tw10753325038370766622 := 0
def tw488345934995256295 := 0
def tw428839589164359890 := 0
def tw6191086081258807215 := 0
def tw11730921060768310785 := 0
def tw9375291332687809037 := 0
def tw8652010129159433427 := 0
def tw17632610800402530513 := 0
def tw7429710283269836709 := 0
def tw14124510755302907271 := 0
def tw14461448524120012013 := 0
def tw8747796165566332734 := 0
def tw3426871192614121671 := 0
def tw11071538633527486146 := 0
def tw10042485073811388034 := 0
def tw673481503597199107 := 0
def tw6483626403067299541 := 0
def tw17154362748942545714 := 0
def tw7397657380359604161 := 0
def tw2759846925674882719 := 0
def tw9639927023222756112 := 0
def tw637453633182754333 := 0
def tw7436365993573817143 := 0
def tw7713073897194947527 := 0
def tw11092073512100630901 := 0
def tw150062036029118051 := 0
def tw723884974128733636 := 0
def tw4363925193882966260 := 0
def tw9365378860922467748 := 0
def tw9125052491695387594 := 0
def tw1861115912161410222 := 0
def tw6989164902895697477 := 0
def tw9381946968888962452 := 0
def tw5835567587311308747 := 0
def tw4333370499026452652 := 0
def tw17843462863921352091 := 0
def tw18152072862726844802 := 0
def tw1998740661357691491 := 0
def tw8184029863510544592 := 0
def tw5702773165968987219 := 0
def tw13268744105099598259 := 0
def tw12534976604142047896 := 0
def tw11320231621600932320 := 0
def tw4355563654940378304 := 0
def tw3596683735803003550 := 0
def tw10948332417929904394 := 0
def tw15835075952491878051 := 0
def tw5441858794643028016 := 0
def tw16892028839610934702 := 0
def tw13978706857204794284 := 0
def tw17551855291898678905 := 0
def tw4817615071146956436 := 0
def tw2100478251984367240 := 0
def tw6615278705887953330 := 0
def tw3866376109799536718 := 0
def tw4274775146892380534 := 0
def tw16721676195723467362 := 0
def tw18316850961303881069 := 0
def tw10655409223176291380 := 0
def tw3512202512502968456 := 0
def tw12294391987015542360 := 0
def tw14428945645810756687 := 0
def tw17068281115077893871 := 0
def tw11752901892076426460 := 0
def tw5176987264336170241 := 0
def tw12389867805576806470 := 0
def tw14007135690551092319 := 0
def tw7518261620743334969 := 0
def tw8508910889865319007 := 0
def tw9385091820863549054 := 0
def tw8017755952889080788 := 0
def tw6936147385559852547 := 0
def tw10730420504271929685 := 0
def tw18388784842949485594 := 0
def tw778432434220073790 := 0
def tw16504709808057895041 := 0
def tw13099236111462168480 := 0
def tw3649930870067216779 := 0
def tw1151486125260930724 := 0
def tw15331603340586537149 := 0
def tw14131075468533753755 := 0
def tw16773313186565740658 := 0
def tw5196012145399541183 := 0
def tw3548080510735174398 := 0
def tw3682853987420858235 := 0
def tw194725772078412849 := 0
def tw11240811740745920070 := 0
def tw16039160653325385694 := 0
def tw12737920728238650125 := 0
def tw7932385087956234517 := 0
def tw825350408399882533 := 0
def tw18136974781507455553 := 0
def tw12286552183446067649 := 0
def tw9474346461187518073 := 0
def tw1271780252528929508 := 0
def tw1535042891442051046 := 0
def tw9894689661223151050 := 0
def tw14391669452230244591 := 0
def tw13567422203984099117 := 0
def tw6081718032117210609 := 0
def tw16905492400161499160 := 0
def tw10342836864548144776 := 0
def tw18129919363632328191 := 0
def tw7816080153362072532 := 0
def tw9044739824733905901 := 0
def tw13942708043617091324 := 0
def tw6110206768426262044 := 0
def tw4108021825783076278 := 0
def tw13738099770981043890 := 0
def tw4920992047103410418 := 0
def tw16722720877000059927 := 0
def tw1197608441250705014 := 0
def tw14181398763543032059 := 0
def tw12859246096893301991 := 0
def tw16336074837135560441 := 0
def tw1878310841298071435 := 0
def tw4645189037533811565 := 0
def tw3180825177697220250 := 0
def tw17994324454679047988 := 0
def tw5121199934458558588 := 0
def tw8376973091746148396 := 0
def tw1625959068867185032 := 0
def tw4977568150701692237 := 0
def tw2310954238185697972 := 0
def tw15389632352148145601 := 0
def tw7707804145233653572 := 0
def tw9011280653653102542 := 0
def tw12811586253319279880 := 0
def tw8810500784346260139 := 0
def tw7440550408658014159 := 0
def tw9138352042698831812 := 0
def tw16996875889151491023 := 0
def tw8466228161618416922 := 0
def tw18011047904055199777 := 0
def tw3608609762050716676 := 0
def tw8853113660092471299 := 0
def tw8137214251514473481 := 0
def tw15927974664092242835 := 0
def tw3639900023938334964 := 0
def tw6078439147280665048 := 0
def tw13498082457842111457 := 0
def tw11721696750637758600 := 0
def tw13264400400169619543 := 0
def tw9192718281751812359 := 0
def tw17763907926690234735 := 0
def tw8491597258514023200 := 0
def tw16778801202086047114 := 0
def tw10662842539902326354 := 0
def tw11762595690472691719 := 0
def tw17030940391003607756 := 0
def tw16770028859743484533 := 0
def tw18053071771049367741 := 0
def tw3607166862393459892 := 0
def tw4725534284192098054 := 0
def tw16789672190029756921 := 0
def tw244613983936743850 := 0
def tw11141306681128990297 := 0
def tw16623419443926356363 := 0
def tw3539825666193141408 := 0
def tw12774440941353920362 := 0
def tw17291870637241120233 := 0
def tw10593706694178648378 := 0
def tw11042813533884195364 := 0
def tw8753086112611908974 := 0
def tw8604789538396890595 := 0
def tw16159107190107507385 := 0
def tw9753610583573402375 := 0
def tw4411096705492815026 := 0
def tw15748857949276577627 := 0
def tw13010740534441320945 := 0
def tw8548118337984578869 := 0
def tw12745420894201212464 := 0
def tw5244317299455133438 := 0
def tw8689049020842903675 := 0
def tw5986020078613733709 := 0
def tw15680222070771807730 := 0
def tw2668638273962415992 := 0
def tw18161697943370455052 := 0
def tw9799717486482634578 := 0
def tw3340603096582415539 := 0
def tw12145177718049519170 := 0
def tw12315087595263583941 := 0
def tw18223332633048853106 := 0
def tw18334578454170260764 := 0
def tw9206362915365082655 := 0
def tw14505454697256702423 := 0
def tw802696576608307608 := 0
def tw2167494110930044989 := 0
def tw1295521011596265797 := 0
def tw14526768383887903783 := 0
def tw12678757676216791755 := 0
def tw17461604269379784426 := 0
def tw17351927173115521636 := 0
def tw3764959671818521041 := 0
def tw381647828779954230 := 0
def tw6338307017673335794 := 0
def tw9457996891957593051 := 0
def tw12979286582757415519 := 0
def tw12177584154270096604 := 0
def tw11205085373622327332 := 0
def tw8963213004066613423 := 0
def tw1976816813932350705 := 0
def tw5621119313183912563 := 0
def tw3195988916231208515 := 0
def tw16288619862271418447 := 0
def tw10095864013164400637 := 0
def tw1135318870348025312 := 0
def tw1830841965920540927 := 0
def tw9438201712533817613 := 0
def tw8801544061539762866 := 0
def tw15626351017770219861 := 0
def tw17318660388097419480 := 0
def tw4738774719454288738 := 0
def tw12882531341171364077 := 0
def tw8009249813258995557 := 0
def tw9795335591982440157 := 0
def tw4920738209878808717 := 0
def tw9098783638316280071 := 0
def tw965164051011361900 := 0
def tw2935938290399644393 := 0
def tw4568046108019908069 := 0
def tw6616754966463195969 := 0
def tw16762879573713732672 := 0
def tw2557016924951057113 := 0
def tw8366742641438794243 := 0
def tw8214081470256594885 := 0
def tw13383566112774346686 := 0
def tw1505694416286654355 := 0
def tw16778360072893260115 := 0
def tw14118295281747350586 := 0
def tw11388045121160361953 := 0
def tw7333702199439357224 := 0
def tw5819562801155742289 := 0
def tw12437609205603948816 := 0
def tw18194486229633627173 := 0
def tw12553153141647836494 := 0
def tw11479495505810402132 := 0
def tw11101814470098175237 := 0
def tw4897068242335702604 := 0
def tw14841508865254207771 := 0
def tw6630079648156558857 := 0
def tw10900855149414573459 := 0
def tw2773773766306337950 := 0
def tw9315058879799127689 := 0
def tw7156313511565719725 := 0
def tw13927395355239449659 := 0
def tw6736040368915303368 := 0
def tw13708061901379036152 := 0
def tw9610207255117744030 := 0
def tw11516852280918906293 := 0
def tw8763419455540726685 := 0
def tw17214083337458925943 := 0
def tw7430138618322126173 := 0
def tw435777878710267699 := 0
def tw16892068354760748122 := 0
def tw4082567033405859252 := 0
def tw5375182207827280725 := 0
def tw13726686307874629964 := 0
def tw16150109640386639529 := 0
def tw78481521110716978 := 0
def tw3970939495327416191 := 0
def tw14421008719051474821 := 0
def tw11333291563007282223 := 0
def tw11735573078358704558 := 0
def tw8719860023966474456 := 0
def tw546179633272766860 := 0
def tw4928132507498984327 := 0
def tw17779796786516401676 := 0
def tw237508973811759335 := 0
def tw16818391437479114542 := 0
def tw17050208575850590058 := 0
def tw7430049408045655095 := 0
def tw16341857762836179158 := 0
def tw1327917375461967416 := 0
def tw11736268709797802878 := 0
def tw9030232531951724588 := 0
def tw1947611219692121245 := 0
def tw6822838484434081956 := 0
def tw16823354283398024709 := 0
def tw2888035768108169112 := 0
def tw4551575099359697653 := 0
def tw18061225425808098881 := 0
def tw1241069764073657729 := 0
def tw10458788123152958614 := 0
def tw8735502273249256472 := 0
def tw5522976202247820177 := 0
def tw6662755373350571268 := 0
def tw1070697277612781701 := 0
def tw5811834055043752948 := 0
def tw12132104304987976684 := 0
def tw10563804275746472685 := 0
def tw3677332455536604582 := 0
def tw11636837545282083477 := 0
def tw8288481558671599886 := 0
def tw17410795850831418045 := 0
def tw5561621754348065008 := 0
def tw17786296008809444535 := 0
def tw8286272283337285514 := 0
def tw15447753190173234594 := 0
def tw12051632957629449209 := 0
def tw12246653973151729177 := 0
def tw17268184912294098604 := 0
def tw6012012362041940451 := 0
def tw3372767151390472673 := 0
def tw9911575025872117329 := 0
def tw13488848617155169358 := 0
def tw6404891254412542544 := 0
def tw5947356254885800612 := 0
def tw14402243552926132246 := 0
def tw14022404330834754166 := 0
def tw4590350188624424260 := 0
def tw18249260141542035953 := 0
def tw12044940866356966297 := 0
def tw11576339773038597917 := 0
def tw9948359907872509177 := 0
def tw12301603565878736927 := 0
def tw13627678402720969834 := 0
def tw16098298680574190166 := 0
def tw4689523061584671398 := 0
def tw9326219916389012326 := 0
def tw5935504273333470811 := 0
def tw6974919963766361803 := 0
def tw11967422944816195711 := 0
def tw13246755125099470528 := 0
def tw12082481759260155747 := 0
def tw17306831154761587514 := 0
def tw5707597217057823323 := 0
def tw218563157436391643 := 0
def tw825466765798864794 := 0
def tw16174072849608508646 := 0
def tw18258833732330753997 := 0
def tw14543066276284143834 := 0
def tw9582026709390960741 := 0
def tw11411496601181924682 := 0
def tw44170278887983710 := 0
def tw5694980699191589717 := 0
def tw10949852485672562013 := 0
def tw16796430408461957277 := 0
def tw2299411214010242108 := 0
def tw4419392628330872724 := 0
def tw6186890300633016450 := 0
def tw1361294373664878249 := 0
def tw18128262204347383407 := 0
def tw11576596093887314551 := 0
def tw5034031833028711388 := 0
def tw9353087678332182578 := 0
def tw17206890340967588236 := 0
def tw13007866115947350789 := 0
def tw16509631859163947084 := 0
def tw4795899623083400480 := 0
def tw3551233276323406924 := 0
def tw6307918756981110269 := 0
def tw7512511023811839628 := 0
def tw6542682116098024247 := 0
def tw8778090895439715668 := 0
def tw10444133275446520891 := 0
def tw6842322350372458257 := 0
end PySem.W.Fast
open PySem PySem.W PyProof.Rows
set_option maxRecDepth 100000 in
set_option maxHeartbeats 0 in
theorem PySem.Challenge.cw_mendweights_k42_texts_refused_holds : PySem.Challenge.rw_mendweights_k42_texts_refused.Holds := by
  w_on; o_law; k_head; (case hw => w_witness2)
  k_fill
  refine L2.walkLaw (l := PySem.Challenge.rw_mendweights_k42_texts_refused) (k := 12) (x := "_law_script") rfl rfl ⟨rfl, by decide, by decide⟩ (fun w h Y => PySem.W.kIn_of Y) ?F
  case F =>
    intro w mg fa h KX G hmg
    have T : L2.Txt Mw.BN mg := by
      refine' L2.txt_cons KX G ?z1 (L2.txt_cons KX G ?z2 (L2.txt_cons KX G ?z3 (L2.txt_cons KX G ?z4 (L2.txt_cons KX G ?z5 (L2.txt_cons KX G ?z6 (L2.txt_cons KX G ?z7 (L2.txt_cons KX G ?z8 (L2.txt_cons KX G ?z9 (L2.txt_cons KX G ?z10 (L2.txt_cons KX G ?z11 (L2.txt_cons KX G ?z12 (L2.txt_cons KX G ?z13 (L2.txt_cons KX G ?z14 (L2.txt_cons KX G ?z15 L2.txt_nil))))))))))))))
      (case z1 => k_is); (case z2 => k_is); (case z3 => k_is); (case z4 => k_is); (case z5 => k_is); (case z6 => k_is); (case z7 => k_is); (case z8 => k_is); (case z9 => k_is); (case z10 => k_is); (case z11 => k_is); (case z12 => k_is); (case z13 => k_is); (case z14 => k_is); (case z15 => k_is)
    obtain ⟨C_Hand, C_PlainHand, C_Desk, X_MendError, X_NoFraction, X_NoPoint, X_NoRow, X_NoSide, X_NoTable, X_NoText, X_NotParted, X_OneSide, X_TooMany, X_WrongBook, PR⟩ : ∃ C_Hand C_PlainHand C_Desk X_MendError X_NoFraction X_NoPoint X_NoRow X_NoSide X_NoTable X_NoText X_NotParted X_OneSide X_TooMany X_WrongBook, Mw.Prog (L2.KOf KX) mg C_Hand C_PlainHand C_Desk X_MendError X_NoFraction X_NoPoint X_NoRow X_NoSide X_NoTable X_NoText X_NotParted X_OneSide X_TooMany X_WrongBook := by
      dsimp only [L2.KOf]
      refine' ⟨_, _, _, _, _, _, _, _, _, _, _, _, _, _, ⟨⟨⟨?z2, ?z3, ?z4, ?z5⟩, ?z6, ?z7, PySem.W.mg_of KX G ?z1⟩, ⟨⟨?z9, ?z10, ?z11, ?z12⟩, ?z13, ?z14, PySem.W.mg_of KX G ?z8⟩, ⟨⟨?z16, ?z17, ?z18, ?z19⟩, ?z20, ?z21, PySem.W.mg_of KX G ?z15⟩, ⟨⟨?z23⟩, PySem.W.mg_of KX G ?z22⟩, ⟨PySem.W.mg_of KX G ?z24⟩, ⟨PySem.W.mg_of KX G ?z25⟩, ⟨PySem.W.mg_of KX G ?z26⟩, ⟨PySem.W.mg_of KX G ?z27⟩, ⟨PySem.W.mg_of KX G ?z28⟩, ⟨PySem.W.mg_of KX G ?z29⟩, ⟨PySem.W.mg_of KX G ?z30⟩, ⟨PySem.W.mg_of KX G ?z31⟩, ⟨PySem.W.mg_of KX G ?z32⟩, ⟨PySem.W.mg_of KX G ?z33⟩, ⟨?z35, ⟨?z36, ?z37, ?z38, ?z39⟩, ⟨?z40, ?z41, ?z42, ?z43, ?z44⟩, PySem.W.mg_of KX G ?z34⟩, ⟨⟨_, _, ⟨?z45, ?z46, ?z47⟩, L2.fun_mk ?z48 ?z49 ?z50⟩⟩, ⟨?z51, ?z52, ?z53, ?z54, ?z55, ?z56, ?z57⟩, ?z58, ?z59, ?z60, ?z61, ?z62, ?z63, ?z64, ?z65, ?z66, ?z67, ?z68, ?z69, ?z70, ?z71, ?z72, ?z73, ?z74, ⟨⟨_, _, ⟨?z75, ?z76, ?z77⟩, L2.fun_mk ?z78 ?z79 ?z80⟩⟩, ?z81, ?z82, ?z83, ?z84, ?z85, ⟨⟨_, _, ⟨?z86, ?z87, ?z88⟩, L2.fun_mk ?z89 ?z90 ?z91⟩⟩, ?z92, ?z93, ?z94, ?z95, ?z96, ⟨⟨_, _, ⟨?z97, ?z98, ?z99⟩, L2.fun_mk ?z100 ?z101 ?z102⟩⟩, ?z103, ?z104, ?z105⟩⟩
      (case z1 => k_is)
      (case z2 => k_is)
      (case z3 => k_is)
      (case z4 => k_is)
      (case z5 => k_is)
      (case z6 => k_is)
      (case z7 => k_is)
      (case z8 => k_is)
      (case z9 => k_is)
      (case z10 => k_is)
      (case z11 => k_is)
      (case z12 => k_is)
      (case z13 => k_is)
      (case z14 => k_is)
      (case z15 => k_is)
      (case z16 => k_is)
      (case z17 => k_is)
      (case z18 => k_is)
      (case z19 => k_is)
      (case z20 => k_is)
      (case z21 => k_is)
      (case z22 => k_is)
      (case z23 => k_exc)
      (case z24 => k_is)
      (case z25 => k_is)
      (case z26 => k_is)
      (case z27 => k_is)
      (case z28 => k_is)
      (case z29 => k_is)
      (case z30 => k_is)
      (case z31 => k_is)
      (case z32 => k_is)
      (case z33 => k_is)
      (case z34 => k_is)
      (case z35 => kernel_rfl)
      (case z36 => k_is)
      (case z37 => k_is)
      (case z38 => k_is)
      (case z39 => kernel_rfl)
      (case z40 => k_is)
      (case z41 => k_is)
      (case z42 => k_is)
      (case z43 => k_is)
      (case z44 => kernel_rfl)
      (case z45 => k_is)
      (case z46 => k_is)
      (case z47 => k_is)
      (case z48 => k_is)
      (case z49 => k_is)
      (case z50 => k_is)
      (case z51 => k_is)
      (case z52 => k_is)
      (case z53 => k_is)
      (case z54 => k_is)
      (case z55 => k_is)
      (case z56 => k_is)
      (case z57 => k_is)
      (case z58 => kit_is)
      (case z59 => kit_is)
      (case z60 => kit_is)
      (case z61 => kit_is)
      (case z62 => kit_is)
      (case z63 => kit_is)
      (case z64 => kit_is)
      (case z65 => kit_is)
      (case z66 => kit_is)
      (case z67 => kit_is)
      (case z68 => kit_is)
      (case z69 => kts_exm)
      (case z70 => (unfold L2.NoAttr; k_is))
      (case z71 => (unfold L2.NoAttr; k_is))
      (case z72 => (unfold L2.NoAttr; k_is))
      (case z73 => (unfold L2.NoAttr; k_is))
      (case z74 => (unfold L2.NoAttr; k_is))
      (case z75 => k_is)
      (case z76 => k_is)
      (case z77 => k_is)
      (case z78 => k_is)
      (case z79 => k_is)
      (case z80 => k_is)
      (case z81 => (unfold L2.NoAttr; k_is))
      (case z82 => (unfold L2.NoAttr; k_is))
      (case z83 => (unfold L2.NoAttr; k_is))
      (case z84 => (unfold L2.NoAttr; k_is))
      (case z85 => (unfold L2.NoAttr; k_is))
      (case z86 => k_is)
      (case z87 => k_is)
      (case z88 => k_is)
      (case z89 => k_is)
      (case z90 => k_is)
      (case z91 => k_is)
      (case z92 => (unfold L2.NoAttr; k_is))
      (case z93 => (unfold L2.NoAttr; k_is))
      (case z94 => (unfold L2.NoAttr; k_is))
      (case z95 => (unfold L2.NoAttr; k_is))
      (case z96 => (unfold L2.NoAttr; k_is))
      (case z97 => k_is)
      (case z98 => k_is)
      (case z99 => k_is)
      (case z100 => k_is)
      (case z101 => k_is)
      (case z102 => k_is)
      (case z103 => decide)
      (case z104 => decide)
      (case z105 => decide)
    obtain ⟨bt, GC⟩ : ∃ bt, Mw.Consts (L2.KOf KX) mg bt := by
      dsimp only [L2.KOf]
      refine' ⟨_, Mw.consts (PySem.W.mg_of KX G ?q0) (PySem.W.mg_of KX G ?q1) (PySem.W.mg_of KX G ?q2) (PySem.W.mg_of KX G ?q3) (PySem.W.mg_of KX G ?q4) (PySem.W.mg_of KX G ?q5) ?l ?c ?d ?s ?v⟩
      (case q0 => k_is)
      (case q1 => k_is)
      (case q2 => k_is)
      (case q3 => k_is)
      (case q4 => k_is)
      (case q5 => k_is)
      (case l => k_is)
      (case c => rfl)
      (case d => rfl)
      (case s => decide)
      (case v => exact .cons ⟨_, rfl⟩ (.cons ⟨_, rfl⟩ (.cons ⟨_, rfl⟩ (.cons ⟨_, rfl⟩ (.cons ⟨_, rfl⟩ (.cons ⟨_, rfl⟩ (.cons ⟨_, rfl⟩ (.cons ⟨_, rfl⟩ (.nil)))))))))
    have d14 : L2.DefAt (L2.KOf KX) "shared_factor" (Mw.top 14) := by dsimp only [L2.KOf]; refine' L2.defAt ?a ?l ?c ?k; (case a => k_is); (case l => k_is); (case c => k_is); (case k => k_is)
    have d16 : L2.DefAt (L2.KOf KX) "least_multiple" (Mw.top 16) := by dsimp only [L2.KOf]; refine' L2.defAt ?a ?l ?c ?k; (case a => k_is); (case l => k_is); (case c => k_is); (case k => k_is)
    have d24 : L2.DefAt (L2.KOf KX) "is_number" (Mw.top 24) := by dsimp only [L2.KOf]; refine' L2.defAt ?a ?l ?c ?k; (case a => k_is); (case l => k_is); (case c => k_is); (case k => k_is)
    have d25 : L2.DefAt (L2.KOf KX) "is_coordinate" (Mw.top 25) := by dsimp only [L2.KOf]; refine' L2.defAt ?a ?l ?c ?k; (case a => k_is); (case l => k_is); (case c => k_is); (case k => k_is)
    have d26 : L2.DefAt (L2.KOf KX) "is_line" (Mw.top 26) := by dsimp only [L2.KOf]; refine' L2.defAt ?a ?l ?c ?k; (case a => k_is); (case l => k_is); (case c => k_is); (case k => k_is)
    have d27 : L2.DefAt (L2.KOf KX) "look_at_lines" (Mw.top 27) := by dsimp only [L2.KOf]; refine' L2.defAt ?a ?l ?c ?k; (case a => k_is); (case l => k_is); (case c => k_is); (case k => k_is)
    have d28 : L2.DefAt (L2.KOf KX) "fraction_of" (Mw.top 28) := by dsimp only [L2.KOf]; refine' L2.defAt ?a ?l ?c ?k; (case a => k_is); (case l => k_is); (case c => k_is); (case k => k_is)
    have d29 : L2.DefAt (L2.KOf KX) "unit_of" (Mw.top 29) := by dsimp only [L2.KOf]; refine' L2.defAt ?a ?l ?c ?k; (case a => k_is); (case l => k_is); (case c => k_is); (case k => k_is)
    have d30 : L2.DefAt (L2.KOf KX) "in_units" (Mw.top 30) := by dsimp only [L2.KOf]; refine' L2.defAt ?a ?l ?c ?k; (case a => k_is); (case l => k_is); (case c => k_is); (case k => k_is)
    have d31 : L2.DefAt (L2.KOf KX) "row_of" (Mw.top 31) := by dsimp only [L2.KOf]; refine' L2.defAt ?a ?l ?c ?k; (case a => k_is); (case l => k_is); (case c => k_is); (case k => k_is)
    have d32 : L2.DefAt (L2.KOf KX) "look_at_reach" (Mw.top 32) := by dsimp only [L2.KOf]; refine' L2.defAt ?a ?l ?c ?k; (case a => k_is); (case l => k_is); (case c => k_is); (case k => k_is)
    have d33 : L2.DefAt (L2.KOf KX) "read_rows" (Mw.top 33) := by dsimp only [L2.KOf]; refine' L2.defAt ?a ?l ?c ?k; (case a => k_is); (case l => k_is); (case c => k_is); (case k => k_is)
    have d40 : L2.DefAt (L2.KOf KX) "_law_cell_at" (Mw.top 40) := by dsimp only [L2.KOf]; refine' L2.defAt ?a ?l ?c ?k; (case a => k_is); (case l => k_is); (case c => k_is); (case k => k_is)
    have d41 : L2.DefAt (L2.KOf KX) "_law_mixed" (Mw.top 41) := by dsimp only [L2.KOf]; refine' L2.defAt ?a ?l ?c ?k; (case a => k_is); (case l => k_is); (case c => k_is); (case k => k_is)
    have d42 : L2.DefAt (L2.KOf KX) "_law_drawn" (Mw.top 42) := by dsimp only [L2.KOf]; refine' L2.defAt ?a ?l ?c ?k; (case a => k_is); (case l => k_is); (case c => k_is); (case k => k_is)
    have d43 : L2.DefAt (L2.KOf KX) "_law_factor" (Mw.top 43) := by dsimp only [L2.KOf]; refine' L2.defAt ?a ?l ?c ?k; (case a => k_is); (case l => k_is); (case c => k_is); (case k => k_is)
    have d44 : L2.DefAt (L2.KOf KX) "_law_coordinate" (Mw.top 44) := by dsimp only [L2.KOf]; refine' L2.defAt ?a ?l ?c ?k; (case a => k_is); (case l => k_is); (case c => k_is); (case k => k_is)
    have d45 : L2.DefAt (L2.KOf KX) "_law_written" (Mw.top 45) := by dsimp only [L2.KOf]; refine' L2.defAt ?a ?l ?c ?k; (case a => k_is); (case l => k_is); (case c => k_is); (case k => k_is)
    have d46 : L2.DefAt (L2.KOf KX) "_law_line" (Mw.top 46) := by dsimp only [L2.KOf]; refine' L2.defAt ?a ?l ?c ?k; (case a => k_is); (case l => k_is); (case c => k_is); (case k => k_is)
    have d47 : L2.DefAt (L2.KOf KX) "_law_lines" (Mw.top 47) := by dsimp only [L2.KOf]; refine' L2.defAt ?a ?l ?c ?k; (case a => k_is); (case l => k_is); (case c => k_is); (case k => k_is)
    have d48 : L2.DefAt (L2.KOf KX) "_law_unit" (Mw.top 48) := by dsimp only [L2.KOf]; refine' L2.defAt ?a ?l ?c ?k; (case a => k_is); (case l => k_is); (case c => k_is); (case k => k_is)
    have d49 : L2.DefAt (L2.KOf KX) "_law_rows" (Mw.top 49) := by dsimp only [L2.KOf]; refine' L2.defAt ?a ?l ?c ?k; (case a => k_is); (case l => k_is); (case c => k_is); (case k => k_is)
    have d50 : L2.DefAt (L2.KOf KX) "_law_text" (Mw.top 50) := by dsimp only [L2.KOf]; refine' L2.defAt ?a ?l ?c ?k; (case a => k_is); (case l => k_is); (case c => k_is); (case k => k_is)
    have d51 : L2.DefAt (L2.KOf KX) "_law_word" (Mw.top 51) := by dsimp only [L2.KOf]; refine' L2.defAt ?a ?l ?c ?k; (case a => k_is); (case l => k_is); (case c => k_is); (case k => k_is)
    have d52 : L2.DefAt (L2.KOf KX) "_law_spoiled" (Mw.top 52) := by dsimp only [L2.KOf]; refine' L2.defAt ?a ?l ?c ?k; (case a => k_is); (case l => k_is); (case c => k_is); (case k => k_is)
    have d53 : L2.DefAt (L2.KOf KX) "_law_figures" (Mw.top 53) := by dsimp only [L2.KOf]; refine' L2.defAt ?a ?l ?c ?k; (case a => k_is); (case l => k_is); (case c => k_is); (case k => k_is)
    have d54 : L2.DefAt (L2.KOf KX) "_law_size" (Mw.top 54) := by dsimp only [L2.KOf]; refine' L2.defAt ?a ?l ?c ?k; (case a => k_is); (case l => k_is); (case c => k_is); (case k => k_is)
    have d55 : L2.DefAt (L2.KOf KX) "_law_read" (Mw.top 55) := by dsimp only [L2.KOf]; refine' L2.defAt ?a ?l ?c ?k; (case a => k_is); (case l => k_is); (case c => k_is); (case k => k_is)
    have d56 : L2.DefAt (L2.KOf KX) "_law_caught" (Mw.top 56) := by dsimp only [L2.KOf]; refine' L2.defAt ?a ?l ?c ?k; (case a => k_is); (case l => k_is); (case c => k_is); (case k => k_is)
    have d57 : L2.DefAt (L2.KOf KX) "_law_refused" (Mw.top 57) := by dsimp only [L2.KOf]; refine' L2.defAt ?a ?l ?c ?k; (case a => k_is); (case l => k_is); (case c => k_is); (case k => k_is)
    have d58 : L2.DefAt (L2.KOf KX) "_law_no_text" (Mw.top 58) := by dsimp only [L2.KOf]; refine' L2.defAt ?a ?l ?c ?k; (case a => k_is); (case l => k_is); (case c => k_is); (case k => k_is)
    have d59 : L2.DefAt (L2.KOf KX) "law" (Mw.top 59) := by dsimp only [L2.KOf]; refine' L2.defAt ?a ?l ?c ?k; (case a => k_is); (case l => k_is); (case c => k_is); (case k => k_is)
    refine d59.law KX G hmg (fun _ _ _ _ _ _ => L2.len1 fun _ => rfl) fun f fd base F kb nb => ?_
    have c14 := d14.cal (P := PySem.Challenge.rw_mendweights_k42_texts_refused.prog) (w := w) (base := base) (ps := ["one", "other"]) KX G (fun _ _ _ _ _ _ => L2.len2 fun _ _ => rfl) fun f fd F => Mw.ok_shared_factor F T 
    have c16 := d16.cal (P := PySem.Challenge.rw_mendweights_k42_texts_refused.prog) (w := w) (base := base) (ps := ["numbers"]) KX G (fun _ _ _ _ _ _ => L2.len1 fun _ => rfl) fun f fd F => Mw.ok_least_multiple F T c14
    have c24 := d24.cal (P := PySem.Challenge.rw_mendweights_k42_texts_refused.prog) (w := w) (base := base) (ps := ["word"]) KX G (fun _ _ _ _ _ _ => L2.len1 fun _ => rfl) fun f fd F => Mw.ok_is_number F T GC
    have c25 := d25.cal (P := PySem.Challenge.rw_mendweights_k42_texts_refused.prog) (w := w) (base := base) (ps := ["word"]) KX G (fun _ _ _ _ _ _ => L2.len1 fun _ => rfl) fun f fd F => Mw.ok_is_coordinate F T GC c24 c14
    have c26 := d26.cal (P := PySem.Challenge.rw_mendweights_k42_texts_refused.prog) (w := w) (base := base) (ps := ["words"]) KX G (fun _ _ _ _ _ _ => L2.len1 fun _ => rfl) fun f fd F => Mw.ok_is_line F T GC c25
    have c28 := d28.cal (P := PySem.Challenge.rw_mendweights_k42_texts_refused.prog) (w := w) (base := base) (ps := ["word"]) KX G (fun _ _ _ _ _ _ => L2.len1 fun _ => rfl) fun f fd F => Mw.ok_fraction_of F T 
    have c29 := d29.cal (P := PySem.Challenge.rw_mendweights_k42_texts_refused.prog) (w := w) (base := base) (ps := ["lines"]) KX G (fun _ _ _ _ _ _ => L2.len1 fun _ => rfl) fun f fd F => Mw.ok_unit_of F T c28 c16
    have c30 := d30.cal (P := PySem.Challenge.rw_mendweights_k42_texts_refused.prog) (w := w) (base := base) (ps := ["word", "unit"]) KX G (fun _ _ _ _ _ _ => L2.len2 fun _ _ => rfl) fun f fd F => Mw.ok_in_units F T c28
    have c31 := d31.cal (P := PySem.Challenge.rw_mendweights_k42_texts_refused.prog) (w := w) (base := base) (ps := ["words", "unit"]) KX G (fun _ _ _ _ _ _ => L2.len2 fun _ _ => rfl) fun f fd F => Mw.ok_row_of F T c30
    have m_notext := Mw.no_text (P := PySem.Challenge.rw_mendweights_k42_texts_refused.prog) (w := w) (base := base) PR T
    have c27 := d27.calX (P := PySem.Challenge.rw_mendweights_k42_texts_refused.prog) (w := w) (base := base) (ps := ["lines"]) KX G (fun _ _ _ _ _ _ => L2.len1 fun _ => rfl) fun f fd F => Mw.ok_look_at_lines F T GC c26 m_notext
    have c32 := d32.calX (P := PySem.Challenge.rw_mendweights_k42_texts_refused.prog) (w := w) (base := base) (ps := ["rows"]) KX G (fun _ _ _ _ _ _ => L2.len1 fun _ => rfl) fun f fd F => Mw.ok_look_at_reach F T GC m_notext
    have c33 := d33.calX (P := PySem.Challenge.rw_mendweights_k42_texts_refused.prog) (w := w) (base := base) (ps := ["text"]) KX G (fun _ _ _ _ _ _ => L2.len1 fun _ => rfl) fun f fd F => Mw.ok_read_rows F T c27 c29 c31 c32
    have n_Desk := Mw.desk_new (P := PySem.Challenge.rw_mendweights_k42_texts_refused.prog) (w := w) (base := base) PR T c33
    have c40 := d40.cal (P := PySem.Challenge.rw_mendweights_k42_texts_refused.prog) (w := w) (base := base) (ps := ["_law_script", "_law_k"]) KX G (fun _ _ _ _ _ _ => L2.len2 fun _ _ => rfl) fun f fd F => Mw.ok__law_cell_at F T 
    have c41 := d41.cal (P := PySem.Challenge.rw_mendweights_k42_texts_refused.prog) (w := w) (base := base) (ps := ["_law_cell", "_law_k"]) KX G (fun _ _ _ _ _ _ => L2.len2 fun _ _ => rfl) fun f fd F => Mw.ok__law_mixed F T 
    have c42 := d42.cal (P := PySem.Challenge.rw_mendweights_k42_texts_refused.prog) (w := w) (base := base) (ps := ["_law_cell", "_law_base", "_law_many"]) KX G (fun _ _ _ _ _ _ => L2.len3 fun _ _ _ => rfl) fun f fd F => Mw.ok__law_drawn F T c41
    have c43 := d43.cal (P := PySem.Challenge.rw_mendweights_k42_texts_refused.prog) (w := w) (base := base) (ps := ["_law_one", "_law_other"]) KX G (fun _ _ _ _ _ _ => L2.len2 fun _ _ => rfl) fun f fd F => Mw.ok__law_factor F T 
    have c44 := d44.cal (P := PySem.Challenge.rw_mendweights_k42_texts_refused.prog) (w := w) (base := base) (ps := ["_law_number", "_law_bottoms", "_law_most"]) KX G (fun _ _ _ _ _ _ => L2.len3 fun _ _ _ => rfl) fun f fd F => Mw.ok__law_coordinate F T c43
    have c45 := d45.cal (P := PySem.Challenge.rw_mendweights_k42_texts_refused.prog) (w := w) (base := base) (ps := ["_law_one"]) KX G (fun _ _ _ _ _ _ => L2.len1 fun _ => rfl) fun f fd F => Mw.ok__law_written F T 
    have c46 := d46.cal (P := PySem.Challenge.rw_mendweights_k42_texts_refused.prog) (w := w) (base := base) (ps := ["_law_cell", "_law_wide", "_law_bottoms", "_law_most"]) KX G (fun _ _ _ _ _ _ => L2.len4 fun _ _ _ _ => rfl) fun f fd F => Mw.ok__law_line F T c42 c44
    have c47 := d47.cal (P := PySem.Challenge.rw_mendweights_k42_texts_refused.prog) (w := w) (base := base) (ps := ["_law_script", "_law_first"]) KX G (fun _ _ _ _ _ _ => L2.len2 fun _ _ => rfl) fun f fd F => Mw.ok__law_lines F T c40 c41 c46
    have c48 := d48.cal (P := PySem.Challenge.rw_mendweights_k42_texts_refused.prog) (w := w) (base := base) (ps := ["_law_lines_here"]) KX G (fun _ _ _ _ _ _ => L2.len1 fun _ => rfl) fun f fd F => Mw.ok__law_unit F T c43
    have c49 := d49.cal (P := PySem.Challenge.rw_mendweights_k42_texts_refused.prog) (w := w) (base := base) (ps := ["_law_lines_here"]) KX G (fun _ _ _ _ _ _ => L2.len1 fun _ => rfl) fun f fd F => Mw.ok__law_rows F T c48
    have c50 := d50.cal (P := PySem.Challenge.rw_mendweights_k42_texts_refused.prog) (w := w) (base := base) (ps := ["_law_lines_here"]) KX G (fun _ _ _ _ _ _ => L2.len1 fun _ => rfl) fun f fd F => Mw.ok__law_text F T c45
    have c51 := d51.cal (P := PySem.Challenge.rw_mendweights_k42_texts_refused.prog) (w := w) (base := base) (ps := ["_law_number"]) KX G (fun _ _ _ _ _ _ => L2.len1 fun _ => rfl) fun f fd F => Mw.ok__law_word F T 
    have c52 := d52.cal (P := PySem.Challenge.rw_mendweights_k42_texts_refused.prog) (w := w) (base := base) (ps := ["_law_lines_here", "_law_number"]) KX G (fun _ _ _ _ _ _ => L2.len2 fun _ _ => rfl) fun f fd F => Mw.ok__law_spoiled F T c51
    have c53 := d53.cal (P := PySem.Challenge.rw_mendweights_k42_texts_refused.prog) (w := w) (base := base) (ps := ["_law_word_here"]) KX G (fun _ _ _ _ _ _ => L2.len1 fun _ => rfl) fun f fd F => Mw.ok__law_figures F T 
    have c54 := d54.cal (P := PySem.Challenge.rw_mendweights_k42_texts_refused.prog) (w := w) (base := base) (ps := ["_law_word_here"]) KX G (fun _ _ _ _ _ _ => L2.len1 fun _ => rfl) fun f fd F => Mw.ok__law_size F T c43 c53
    have c55 := d55.cal (P := PySem.Challenge.rw_mendweights_k42_texts_refused.prog) (w := w) (base := base) (ps := ["_law_lines_here"]) KX G (fun _ _ _ _ _ _ => L2.len1 fun _ => rfl) fun f fd F => Mw.ok__law_read F T c54 c49
    have c56 := d56.cal (P := PySem.Challenge.rw_mendweights_k42_texts_refused.prog) (w := w) (base := base) (ps := ["_law_text_here", "_law_way"]) KX G (fun _ _ _ _ _ _ => L2.len2 fun _ _ => rfl) fun f fd F => Mw.ok__law_caught F T PR c33 n_Desk
    have c57 := d57.cal (P := PySem.Challenge.rw_mendweights_k42_texts_refused.prog) (w := w) (base := base) (ps := ["_law_text_here", "_law_way", "_law_line_here"]) KX G (fun _ _ _ _ _ _ => L2.len3 fun _ _ _ => rfl) fun f fd F => Mw.ok__law_refused F T PR c56
    have c58 := d58.cal (P := PySem.Challenge.rw_mendweights_k42_texts_refused.prog) (w := w) (base := base) (ps := []) KX G (fun _ _ _ _ _ _ us h => match us, h with | [], _ => rfl) fun f fd F => Mw.ok__law_no_text F T c57
    exact Mw.ok_law F T c47 c50 c40 c41 c52 c55 c57 c33 c48 c49 c58
