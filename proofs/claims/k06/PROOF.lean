import PyProof.Rows.All
import Wide.All
import OpenK.AllK
import Wide.FinOn
import Lean
import PyProof.EqAt
import PyProof.EqKinds
import PyProof.TupleCall
import KE.KDictOf
import KE.KEqDict
import PyProof.ZipIter
import PyProof.EnumMake
import PyProof.EnumFor
import PyProof.Rows.SortWalk
import PyProof.Rows.SortStr
import PyProof.ConsumeWalk
import KE.KItemsList
import PyProof.StrCalls
import PyProof.StrCaseBound
import PyProof.SetScanFacts
import PyProof.SetKind
import PyProof.SetNew
import PyProof.SetRoads
import PyProof.CollectIter
import PyProof.WalksMore
import PyProof.MakeMany
import KE.KSortTup
import PyProof.Rows.SortShellK
import PyProof.ReprRoads
import PyProof.ReprLen
import PyProof.Ascii
import PyProof.StrWalks
import PyProof.StrBlockI
import PyProof.SliceStr2
import PyProof.StrLawsIn
import PySem.Challenge.RW_worldsay_k06_what_is_a_sentence
set_option Elab.async false
set_option linter.all false
set_option maxRecDepth 100000
set_option maxHeartbeats 4000000
noncomputable section
section
namespace L2
open PySem PySem.Spec PyProof.Rows
noncomputable abbrev Key := Sum Int Str
noncomputable def qb4w : Key -> Value -> Bool
 | .inl k, v => Value.isInt k v
 | .inr x, v => Value.isStrOf x v
noncomputable def keyH (w : World) : Key -> Int
 | .inl k => hashInt k
 | .inr x => hashStr w x
theorem qa3a : ∀ {k : Key} {v : Value}, qb4w k v = true -> (∃ i t, k = Sum.inl i /\ v = Value.int i t) ∨ (∃ x t, k = Sum.inr x /\ v = Value.str x t)
 | .inl i, v, h => by
  obtain ⟨t, e⟩ := Value.isInt_shape (k := i) (v := v) h
  exact .inl ⟨i, t, rfl, e⟩
 | .inr x, v, h => by
  obtain ⟨t, e⟩ := Value.isStrOf_shape (x := x) (v := v) h
  exact .inr ⟨x, t, rfl, e⟩
theorem qe3b (i : Int) (t : Tok) : qb4w (.inl i) (.int i t) = true := by simp [qb4w, Value.isInt]
theorem qe3c (x : Str) (t : Tok) : qb4w (.inr x) (.str x t) = true := by simp [qb4w, Value.isStrOf]
theorem key_ll (a b : Int) : decide ((Sum.inl a : Key) = Sum.inl b) = (a == b) := by
 by_cases e : a = b
 ·subst e; simp
 ·have h : ¬ (Sum.inl a : Key) = Sum.inl b := fun q => e (Sum.inl.inj q)
  rw [decide_eq_false h]
  exact (beq_eq_false_iff_ne.mpr e).symm
theorem key_rr (a b : Str) : decide ((Sum.inr a : Key) = Sum.inr b) = decide (a = b) := by
 by_cases e : a = b
 ·subst e; simp
 ·have h : ¬ (Sum.inr a : Key) = Sum.inr b := fun q => e (Sum.inr.inj q)
  rw [decide_eq_false h, decide_eq_false e]
theorem key_lr (a : Int) (b : Str) : decide ((Sum.inl a : Key) = Sum.inr b) = false := decide_eq_false (fun q => nomatch q)
theorem key_rl (a : Str) (b : Int) : decide ((Sum.inr a : Key) = Sum.inl b) = false := decide_eq_false (fun q => nomatch q)
noncomputable def qa4m (prog : Program) (w : World) : PySem.KeyKind prog w Key where
 is := qb4w
 hash := keyH w
 inj := fun v a b ha hb => by
  rcases qa3a ha with ⟨i, t, rfl, rfl⟩ | ⟨x, t, rfl, rfl⟩
  ·rcases qa3a hb with ⟨j, u, rfl, e⟩ | ⟨y, u, rfl, e⟩
   ·injection e with e1 _; rw [e1]
   ·exact nomatch e
  ·rcases qa3a hb with ⟨j, u, rfl, e⟩ | ⟨y, u, rfl, e⟩
   ·exact nomatch e
   ·injection e with e1 _; rw [e1]
 byValue := fun k v h => by
  rcases qa3a h with ⟨i, t, rfl, rfl⟩ | ⟨x, t, rfl, rfl⟩ <;> rfl
 pyHash := fun hv h => by
  rcases qa3a hv with ⟨i, t, rfl, rfl⟩ | ⟨x, t, rfl, rfl⟩
  ·exact wpAny_pyHash_int h
  ·exact wpAny_pyHash_str h
 eqBool := fun hu hv h => by
  rcases qa3a hu with ⟨i, t, rfl, rfl⟩ | ⟨x, t, rfl, rfl⟩
  ·rcases qa3a hv with ⟨j, u, rfl, rfl⟩ | ⟨y, u, rfl, rfl⟩
   ·rw [key_ll] at h; exact wpAny_eqBool_int h
   ·rw [key_lr] at h; exact SeqAt.EqAt.int_str i t y u _ _ _ _ h
  ·rcases qa3a hv with ⟨j, u, rfl, rfl⟩ | ⟨y, u, rfl, rfl⟩
   ·rw [key_rl] at h; exact SeqAt.EqAt.str_int x t j u _ _ _ _ h
   ·rw [key_rr] at h; exact wpAny_eqBool_str h
 «strs» := fun k x t v h => by
  rcases qa3a h with ⟨i, u, rfl, e⟩ | ⟨y, u, rfl, e⟩
  ·exact nomatch e
  ·injection e with e1 _
   subst e1
   cases v <;> rfl
theorem qd4f (prog : Program) (w : World) (i : Int) (t : Tok) : (qa4m prog w).is (.inl i) (.int i t) = true := qe3b i t
theorem qd4g (prog : Program) (w : World) (x : Str) (t : Tok) : (qa4m prog w).is (.inr x) (.str x t) = true := qe3c x t
end L2
namespace L2
open PySem PySem.Spec PyProof.Rows
inductive V where
 | non | bl (b : Bool) | int (i : Int) | str (x : Str) | byt (b : Array UInt8) | flt (b : UInt64) | ref (a : Addr) | ty (n : String)
 deriving DecidableEq
noncomputable def RelV : V -> Value -> Prop
 | .non, u => u = Value.none
 | .bl b, u => u = Value.bool b
 | .int i, u => ∃ t, u = Value.int i t
 | .str x, u => ∃ t, u = Value.str x t
 | .byt b, u => ∃ t, u = Value.bytes b t
 | .flt b, u => ∃ t, u = Value.float b t
 | .ref a, u => u = Value.ref a
 | .ty n, u => u = Value.type n
noncomputable abbrev Vals : List V -> List Value -> Prop := Paired RelV
theorem Vals.length {xs : List V} {us : List Value} (r : Vals xs us) : xs.length = us.length := Paired.length r
theorem Vals.get : ∀ {xs : List V} {us : List Value} {i : Nat} {x : V}, Vals xs us -> xs[i]? = some x -> ∃ u, us[i]? = some u /\ RelV x u
 | _, _, _, _, .nil, e => by simp at e
 | _, _, 0, _, .cons r _, e => by simp at e; subst e; exact ⟨_, rfl, r⟩
 | _, _, i + 1, x, .cons _ t, e => by
  obtain ⟨u, h1, h2⟩ := Vals.get (i := i) (x := x) t (by simpa using e)
  exact ⟨u, by simpa using h1, h2⟩
theorem Vals.set {x : V} {u : Value} (r : RelV x u) : ∀ {xs : List V} {us : List Value} (i : Nat), Vals xs us -> Vals (xs.set i x) (us.set i u)
 | _, _, _, .nil => .nil
 | _, _, 0, .cons _ t => .cons r t
 | _, _, i + 1, .cons q t => .cons q (Vals.set r i t)
theorem Vals.append : ∀ {xs ys : List V} {us ws : List Value}, Vals xs us -> Vals ys ws -> Vals (xs ++ ys) (us ++ ws)
 | _, _, _, _, .nil, s => s
 | _, _, _, _, .cons r t, s => .cons r (Vals.append t s)
theorem Vals.take : ∀ {xs : List V} {us : List Value} (n : Nat), Vals xs us -> Vals (xs.take n) (us.take n)
 | _, _, 0, _ => .nil
 | _, _, _ + 1, .nil => .nil
 | _, _, n + 1, .cons r t => .cons r (Vals.take n t)
theorem Vals.drop : ∀ {xs : List V} {us : List Value} (n : Nat), Vals xs us -> Vals (xs.drop n) (us.drop n)
 | _, _, 0, r => r
 | _, _, _ + 1, .nil => .nil
 | _, _, n + 1, .cons _ t => Vals.drop n t
noncomputable def RelO : Option V -> Option Value -> Prop
 | some v, some u => RelV v u
 | none, none => True
 | _, _ => False
noncomputable def KV {κ : Type} : List (κ × V) -> List (κ × Value) -> Prop := Paired fun (p : κ × V) (q : κ × Value) => p.1 = q.1 /\ RelV p.2 q.2
noncomputable def kV : Key -> V
 | .inl i => .int i
 | .inr x => .str x
inductive HO where
 /-- a list -/
 | lst (xs : List V)
 /-- a tuple (never changes) -/
 | tup (xs : List V)
 /-- a dict whose keys are ints and texts; one whose keys are tuples of ints and texts (the empty one is both) -/
 | dK (kvs : List (Key × V)) | dT (kvs : List (List Key × V))
 /-- a set of ints: its members, its size -/
 | set (S : Int -> Bool) (n : Nat)
 /-- an instance of the class at C, its dict at dx, its attributes -/
 | ins (C dx : Addr) (fs : List (Str × V))
 /-- the dict of the instance at x -/
 | own (x : Addr)
 /-- the dict of an exception -/
 | xd (fs : List (Str × V))
 /-- a bound method, f of x -/
 | met (f x : Addr)
 /-- a range object lo, lo + 1, .. below hi -/
 | rng (lo hi : Int)
 /-- a thing that is known to the object (the script; a dict while a loop walks it): read, never written while it is so -/
 | frz (o : Obj) (u : HO)
 /-- a code object's table -/
 | tbl (ps : Array Value)
 /-- any other thing, by what is true of its one object (a def of one's own: SetO a S n := HO.ext fun h => ..) -/
 | ext (φ : Heap -> Prop)
noncomputable abbrev Hp := Addr -> Option HO
noncomputable def upd (H : Hp) (a : Addr) (o : HO) : Hp := fun b => if b = a then some o else H b
theorem qa0z {H : Hp} {a : Addr} {o : HO} : upd H a o a = some o := by unfold upd; rw [if_pos rfl]
theorem qa1j {H : Hp} {a b : Addr} {o : HO} (h : b ≠ a) : upd H a o b = H b := by unfold upd; rw [if_neg h]
theorem qa5s {H : Hp} {a b : Addr} {o u : HO} (h : H a = some o) (h' : H b = some u) (d : o ≠ u) : a ≠ b := by
 intro e; subst e; rw [h] at h'; exact d (Option.some.inj h')
theorem qa3y {H : Hp} {a b : Addr} {o : HO} (h : H a = some o) (h' : H b = none) : a ≠ b := by
 intro e; subst e; rw [h] at h'; cases h'
section
variable (P : Program) (w : World)
noncomputable def qa3s (H : Hp) (h : Heap) (a : Addr) : HO -> Prop
 | .lst xs => xs.length <= sizeLine /\ ∃ (its : List Value) (n : Nat), Vals xs its /\ h.get? a = some { cls := .type "list", data := .seq its.toArray n }
 | .tup xs => xs.length <= sizeLine /\ ∃ its : List Value, Vals xs its /\ IsTup h a its.toArray
 | .dK kvs => kvs.length <= sizeLine /\ (a == sysModules) = false /\ ∃ vs, KV kvs vs /\ h.DictOf (qa4m P w) a vs
 | .dT kvs => kvs.length <= sizeLine /\ (a == sysModules) = false /\ ∃ xs : List (List Key × Addr × Value),
   Paired (fun (p : List Key × V) (q : List Key × Addr × Value) => p.1 = q.1 /\ H q.2.1 = some (.tup (p.1.map kV)) /\ RelV p.2 q.2.2) kvs xs /\
   ∃ o es ep, h.get? a = some o /\ o.ExactDict /\ o.data = .dict es ep /\ es.toList = xs.map (entryOfKey (tupleKind (qa4m P w))) /\ (xs.map (·.1)).Nodup
 | .set S n => h.SetOf (intKind P w) a S n
 | .ins C dx fs => H dx = some (.own a) /\ fs.length <= 1000 /\ dx ≠ a /\ h.get? a = some (PySem.W.instObj C dx) /\
   ∃ mA, h.Ns1 dx mA /\ (∀ f, RelO (fs.lookup f) (mA f)) /\ PySem.Within mA (fs.map (·.1))
 | .own _ => ∃ o, h.get? a = some o
 | .xd fs => ∃ mA, h.Ns1 a mA /\ ∀ f, RelO (fs.lookup f) (mA f)
 | .rng lo hi => ∃ t u v, h.get? a = some { cls := .type "range", data := .fields #[.int lo t, .int hi u, .int 1 v] }
 | .frz o u => h.get? a = some o /\ qa3s H h a u
 | .tbl ps => h.get? a = some { cls := .none, data := .fields ps }
 | .met f x => h.get? a = some (PySem.W.methodObj (.ref f) (.ref x))
 | .ext φ => φ h /\ (∃ o, h.get? a = some o) /\ ∀ h1 h2 : Heap, φ h1 -> (∀ o, h1.get? a = some o -> h2.get? a = some o) -> φ h2
noncomputable def HOk (H : Hp) (h : Heap) : Prop := ∀ a o, H a = some o -> qa3s P w H h a o
end
section
variable {P : Program} {w : World} {H H' : Hp} {h h' : Heap} {a : Addr} {o : HO}
theorem qa3s.lt (x : qa3s P w H h a o) : a < h.objs.size := by
 cases o with
 | lst xs => obtain ⟨_, _, _, _, e⟩ := x; exact Heap.lt_size e
 | tup xs => obtain ⟨_, _, _, p⟩ := x; exact p.lt
 | dK kvs => obtain ⟨_, _, _, _, o, _, _, e, _⟩ := x; exact Heap.lt_size e
 | dT kvs => obtain ⟨_, _, _, _, o, _, _, e, _⟩ := x; exact Heap.lt_size e
 | set S n => obtain ⟨o, _, _, _, e, _⟩ := x; exact Heap.lt_size e
 | ins C dx fs => obtain ⟨_, _, _, e, _⟩ := x; exact Heap.lt_size e
 | own y => obtain ⟨_, e⟩ := x; exact Heap.lt_size e
 | xd fs => obtain ⟨_, ⟨_, _, _, e, _⟩, _⟩ := x; exact Heap.lt_size e
 | rng lo hi => obtain ⟨_, _, _, e⟩ := x; exact Heap.lt_size e
 | frz ob u => obtain ⟨e, _⟩ := x; exact Heap.lt_size e
 | tbl ps => exact Heap.lt_size (show h.get? a = some _ from x)
 | met f y => exact Heap.lt_size (show h.get? a = some _ from x)
 | ext φ => obtain ⟨_, ⟨_, e⟩, _⟩ := x; exact Heap.lt_size e
theorem Paired.mapP {α β : Type} {F G : α -> β -> Prop} : ∀ {l₁ : List α} {l₂ : List β}, Paired F l₁ l₂ -> (∀ a b, F a b -> G a b) -> Paired G l₁ l₂
 | _, _, .nil, _ => .nil
 | _, _, .cons r t, f => .cons (f _ _ r) (Paired.mapP t f)
theorem Paired.imp' {α β : Type} {F G : α -> β -> Prop} (f : ∀ a b, F a b -> G a b) {l₁ : List α} {l₂ : List β} (r : Paired F l₁ l₂) : Paired G l₁ l₂ := Paired.mapP r f
theorem qa3s.stay (x : qa3s P w H h a o) (k : ∀ b u, (b = a ∨ H b = some (.own a)) -> h.get? b = some u -> h'.get? b = some u)
  (ho : ∀ b, H b = some (.own a) -> H' b = some (.own a)) (ht : ∀ b xs, H b = some (.tup xs) -> H' b = some (.tup xs)) : qa3s P w H' h' a o := by
 induction o with
 | lst xs => obtain ⟨z, its, n, r, e⟩ := x; exact ⟨z, its, n, r, k _ _ (.inl rfl) e⟩
 | tup xs => obtain ⟨z, its, r, ob, e, c⟩ := x; exact ⟨z, its, r, ob, k _ _ (.inl rfl) e, c⟩
 | dK kvs => obtain ⟨z, y, vs, r, ob, es, ep, e, c⟩ := x; exact ⟨z, y, vs, r, ob, es, ep, k _ _ (.inl rfl) e, c⟩
 | dT kvs =>
  obtain ⟨z, y, xs, r, ob, es, ep, e, c⟩ := x
  exact ⟨z, y, xs, Paired.mapP r fun p q z => ⟨z.1, ht _ _ z.2.1, z.2.2⟩, ob, es, ep, k _ _ (.inl rfl) e, c⟩
 | set S n => obtain ⟨ob, es, ep, t, e, c⟩ := x; exact ⟨ob, es, ep, t, k _ _ (.inl rfl) e, c⟩
 | ins C dx fs =>
  obtain ⟨d, z, ne, e, mA, ⟨od, es, ep, e2, c⟩, r⟩ := x
  exact ⟨ho _ d, z, ne, k _ _ (.inl rfl) e, mA, ⟨od, es, ep, k _ _ (.inr d) e2, c⟩, r⟩
 | own y => obtain ⟨ob, e⟩ := x; exact ⟨ob, k _ _ (.inl rfl) e⟩
 | xd fs => obtain ⟨mA, ⟨od, es, ep, e, c⟩, r⟩ := x; exact ⟨mA, ⟨od, es, ep, k _ _ (.inl rfl) e, c⟩, r⟩
 | rng lo hi => obtain ⟨t, u, v, e⟩ := x; exact ⟨t, u, v, k _ _ (.inl rfl) e⟩
 | frz ob u ih => obtain ⟨e, q⟩ := x; exact ⟨k _ _ (.inl rfl) e, ih q⟩
 | tbl ps =>
  have e : h.get? a = some { cls := .none, data := .fields ps } := x
  show h'.get? a = some { cls := .none, data := .fields ps }
  exact k a _ (.inl rfl) e
 | met f y =>
  have e : h.get? a = some (PySem.W.methodObj (.ref f) (.ref y)) := x
  show h'.get? a = some (PySem.W.methodObj (.ref f) (.ref y))
  exact k a _ (.inl rfl) e
 | ext φ => obtain ⟨p, ⟨o, e⟩, st⟩ := x; exact ⟨st _ _ p fun o q => k _ _ (.inl rfl) q, ⟨o, k _ _ (.inl rfl) e⟩, st⟩
theorem HOk.lt (x : HOk P w H h) (e : H a = some o) : a < h.objs.size := (x a o e).lt
theorem HOk.fresh (x : HOk P w H h) (e : h.objs.size <= a) : H a = none := by
 cases q : H a with
 | none => rfl
 | some u => exact absurd (Nat.lt_of_lt_of_le (x.lt q) e) (Nat.lt_irrefl _)
theorem HOk.kept (x : HOk P w H h) (k : ∀ b u, h.get? b = some u -> h'.get? b = some u) : HOk P w H h' := fun a o e =>
 (x a o e).stay (fun b u _ q => k b u q) (fun _ q => q) fun _ _ q => q
theorem HOk.laid (x : HOk P w H h) (k : ∀ b u, h.get? b = some u -> h'.get? b = some u) (hp : h.objs.size <= a) (new : qa3s P w (upd H a o) h' a o) : HOk P w (upd H a o) h' := fun b u e => by
 have hn := x.fresh hp
 by_cases hb : b = a
 ·subst hb; rw [qa0z] at e; cases e; exact new
 ·rw [qa1j hb] at e
  exact (x b u e).stay (fun c v _ q => k c v q) (fun c q => by rw [qa1j (qa3y q hn)]; exact q) fun c xs q => by rw [qa1j (qa3y q hn)]; exact q
end
noncomputable def Rd (H : Hp) (a : Addr) (u : HO) : Prop := H a = some u ∨ ∃ o, H a = some (.frz o u)
theorem Rd.ok {P : Program} {w : World} {H : Hp} {h : Heap} {a : Addr} {u : HO} (r : Rd H a u) (x : HOk P w H h) : qa3s P w H h a u := by
 rcases r with r | ⟨o, r⟩
 ·exact x a u r
 ·obtain ⟨_, q⟩ := x a _ r
  exact q
noncomputable def Mut : Option HO -> Prop
 | some (.lst _) => True
 | some (.dK _) => True
 | some (.dT _) => True
 | some (.set _ _) => True
 | some (.ins _ _ _) => True
 | some (.ext _) => True
 | _ => False
section
variable {P : Program} {w : World} {H : Hp} {h h' : Heap} {x e : Addr} {o' : HO}
theorem HOk.write (ok : HOk P w H h) (mu : Mut (H x)) (he : e = x ∨ H e = some (.own x)) (k : ∀ b u, b ≠ e -> h.get? b = some u -> h'.get? b = some u) (heo : ∃ u, h'.get? e = some u)
  (new : qa3s P w (upd H x o') h' x o') : HOk P w (upd H x o') h' := fun b u q => by
 have nown : ∀ c y, H c = some (.own y) -> c ≠ x := fun c y r z => by subst z; rw [r] at mu; exact mu
 have ntup : ∀ c xs, H c = some (.tup xs) -> c ≠ x := fun c xs r z => by subst z; rw [r] at mu; exact mu
 by_cases hb : b = x
 ·subst hb; rw [qa0z] at q; cases q; exact new
 ·rw [qa1j hb] at q
  by_cases hbe : b = e
  ·have q' : H b = some (.own x) := by
    rcases he with z | z
    ·exact absurd (hbe.trans z) hb
    ·rw [hbe]; exact z
   rw [q] at q'; cases q'
   obtain ⟨v, hv⟩ := heo
   exact ⟨v, by rw [hbe]; exact hv⟩
  ·refine (ok b u q).stay (fun c v hc r => k c v ?_ r) (fun c r => by rw [qa1j (nown c b r)]; exact r) fun c xs r => by rw [qa1j (ntup c xs r)]; exact r
   rcases hc with rfl | hc
   ·exact hbe
   ·rintro rfl
    rcases he with z | z
    ·exact nown c b hc z
    ·rw [hc] at z; cases z; exact hb rfl
end
structure Un (fs ex : List Addr) (H H' : Hp) (h h' : Heap) : Prop where
 keep : ∀ b o, h.get? b = some o -> H b = none -> b ∉ fs -> b ∉ ex -> h'.get? b = some o
 slot : ∀ b o, h.get? b = some o -> H b = none -> b ∈ fs -> b ∉ ex -> ∃ sl, h'.get? b = some { o with slots := sl }
 free : ∀ b o, h.get? b = some o -> H b = none -> b ∉ ex -> H' b = none
 there : ∀ b o, h.get? b = some o -> b ∉ ex -> ∃ o', h'.get? b = some o'
 tups : ∀ b xs, H b = some (.tup xs) -> H' b = some (.tup xs)
 frzs : ∀ b o u, H b = some (.frz o u) -> H' b = some (.frz o u)
 tbls : ∀ b ps, H b = some (.tbl ps) -> ∃ more, H' b = some (.tbl (ps ++ more))
section
variable {fs fs' ex ex' : List Addr} {H H1 H2 : Hp} {h h1 h2 h' : Heap} {a x e : Addr} {o : HO}
theorem Un.any (u : Un fs ex H H1 h h1) {b : Addr} {ob : Obj} (q : h.get? b = some ob) (n : H b = none) (hx : b ∉ ex) : ∃ sl, h1.get? b = some { ob with slots := sl } := by
 by_cases hb : b ∈ fs
 ·exact u.slot b ob q n hb hx
 ·exact ⟨ob.slots, u.keep b ob q n hb hx⟩
theorem Un.kept (k : ∀ b u, h.get? b = some u -> h'.get? b = some u) : Un fs ex H H h h' :=
 ⟨fun b ob q _ _ _ => k b ob q, fun b ob q _ _ _ => ⟨ob.slots, k b ob q⟩, fun _ _ _ n _ => n, fun b ob q _ => ⟨ob, k b ob q⟩, fun _ _ q => q, fun _ _ _ q => q, fun _ ps q => ⟨#[], by rw [q]; simp⟩⟩
theorem Un.refl : Un fs ex H H h h := Un.kept fun _ _ q => q
theorem Un.laid (k : ∀ b u, h.get? b = some u -> h'.get? b = some u) (hp : h.objs.size <= a) (hn : H a = none) : Un fs ex H (upd H a o) h h' where
 keep := fun b u q _ _ _ => k b u q
 slot := fun b u q _ _ _ => ⟨u.slots, k b u q⟩
 free := fun b u q n _ => by rw [qa1j (Nat.ne_of_lt (Nat.lt_of_lt_of_le (Heap.lt_size q) hp))]; exact n
 there := fun b u q _ => ⟨u, k b u q⟩
 tups := fun b xs q => by rw [qa1j (qa3y q hn)]; exact q
 frzs := fun b u xs q => by rw [qa1j (qa3y q hn)]; exact q
 tbls := fun b ps q => ⟨#[], by rw [qa1j (qa3y q hn), q]; simp⟩
theorem Un.write (mu : Mut (H x)) (he : e = x ∨ H e = some (.own x)) (k : ∀ b u, b ≠ e -> h.get? b = some u -> h'.get? b = some u) (heo : ∃ u, h'.get? e = some u) : Un fs ex H (upd H x o) h h' := by
 have hx : ∀ b, H b = none -> b ≠ x := fun b n z => by subst z; rw [n] at mu; exact mu
 have hb : ∀ b, H b = none -> b ≠ e := fun b n z => by
  subst z
  rcases he with r | r
  ·exact hx b n r
  ·rw [n] at r; cases r
 have hm : ∀ b u, H b = some u -> ¬ Mut (some u) -> b ≠ x := fun b u q nm z => by subst z; rw [q] at mu; exact nm mu
 refine ⟨fun b u q n _ _ => k b u (hb b n) q, fun b u q n _ _ => ⟨u.slots, k b u (hb b n) q⟩, fun b u q n _ => by rw [qa1j (hx b n)]; exact n, fun b u q _ => ?_,
  fun b xs q => by rw [qa1j (hm b _ q fun z => z)]; exact q, fun b u xs q => by rw [qa1j (hm b _ q fun z => z)]; exact q, fun b ps q => ⟨#[], by rw [qa1j (hm b _ q fun z => z), q]; simp⟩⟩
 by_cases hbe : b = e
 ·subst hbe; exact heo
 ·exact ⟨u, k b u hbe q⟩
end
noncomputable def trk (h : Heap) (H : Hp) : List Addr := (List.range h.objs.size).filter fun a => (H a).isSome
noncomputable def hidT (h : Heap) (H : Hp) : Heap := PySem.W.hideAll h (trk h H)
theorem qe3d (h : Heap) (H : Hp) : (hidT h H).objs.size = h.objs.size := PySem.W.hideAll_size _ _
theorem qe5e {h : Heap} {H : Hp} {b : Addr} {o : Obj} (e : h.get? b = some o) (n : H b = none) : (hidT h H).get? b = some o :=
 PySem.W.hideAll_get _ e fun hm => by
  have q : (H b).isSome = true := (List.mem_filter.mp hm).2
  rw [n] at q; simp at q
theorem of_hidT {h : Heap} {H : Hp} {b : Addr} {o : Obj} (e : (hidT h H).get? b = some o) : h.get? b = some o /\ H b = none := by
 have e' : h.get? b = some o := PySem.W.of_hideAll (trk h H) e
 refine ⟨e', ?_⟩
 cases q : H b with
 | none => rfl
 | some x =>
  have hm : b ∈ trk h H := List.mem_filter.mpr ⟨List.mem_range.mpr (Heap.lt_size e'), by simp [q]⟩
  have z : (hidT h H).get? b = none := PySem.W.hideAll_none (trk h H) hm
  rw [z] at e; cases e
noncomputable def allNews (g h : Heap) (L : Addr) : List (Addr × Obj) := (List.range h.objs.size).filterMap fun a => if a = L ∨ (g.get? a).isSome = true then none else (h.get? a).map fun o => (a, o)
noncomputable def rest (g h : Heap) (L d : Addr) : List (Addr × Obj) := (allNews g h L).filter fun p => decide (p.1 ≠ d)
end L2
namespace L2
open PySem PySem.Spec PyProof.Rows
structure Mod (K : PySem.W.Frag) (mg : Str -> Option Value) (base : Heap) : Prop where
 kin : K.In base
 glob : base.Ns mainGlobals mg
 blt : ∃ mb, base.Ns builtinsNs mb /\ ∀ x : Str, x ≠ "__name__" -> mb x = bootBuiltins x
 nolimit : base.NoLimit
structure Cx where
 prog : Program
 w : World
 K : PySem.W.Frag
 mg : Str -> Option Value
 base : Heap
 A : Around
 N : List Str
 s₀ : Shared
 H₀ : Hp
 env : Env
 outer : List Env
 stack : List Env
 ex : List Addr
 fn : Str -> Bool
 calm : Bool
 pn : List (Addr × Obj)
 xe : Value -> Shared -> Prop
noncomputable def frs (l : List Env) : List Addr := l.filterMap (·.frame)
noncomputable abbrev Cx.fs (X : Cx) : List Addr := frs X.outer
noncomputable def Vis (sc : Scope) (x : Str) : Prop := sc.names.lookup x = some .local ∨ sc.names.lookup x = some .cell ∨ sc.names.lookup x = some .free
noncomputable def Loc (sc : Scope) (x : Str) : Prop := sc.names.lookup x = some .local ∨ sc.names.lookup x = some .cell
noncomputable def Look (env : Env) (h : Heap) (m : Str -> Option Value) (x : Str) (u : Value) : Prop :=
 (env.kindOf x = some .local /\ m x = some u) ∨ ((env.kindOf x = some .cell ∨ env.kindOf x = some .free) /\ ∃ c, env.cells.lookup x = some c /\ h.IsCell c (some u))
structure Cx.Ok (X : Cx) : Prop where
 mod : Mod X.K X.mg X.base
 kind : X.env.scope.kind = .function
 glob : X.env.globals = mainGlobals
 blt : X.env.builtins = builtinsNs
 above : X.s₀.heap.objs.size <= X.env.locals
 inj : ∀ x y c, X.env.cells.lookup x = some c -> X.env.cells.lookup y = some c -> x = y
 has : ∀ x, (X.env.kindOf x = some .cell ∨ X.env.kindOf x = some .free) -> ∃ c, X.env.cells.lookup x = some c
 cab : ∀ x c, X.fn x = true -> X.env.cells.lookup x = some c -> X.s₀.heap.objs.size <= c
 hd : X.calm = true -> X.A.handled = none
 frames : X.A.frames = some X.stack
 stk : X.stack = X.outer ∨ (X.stack = X.env :: X.outer /\ X.env.frame = some X.env.locals)
 exf : ∀ b ∈ X.ex, b ≠ X.env.locals /\ ∀ x c, X.env.cells.lookup x = some c -> c ≠ b
 bs : ∀ b o, X.base.get? b = some o -> X.s₀.heap.get? b = some o /\ X.H₀ b = none
 bsz : X.base.objs.size <= X.s₀.heap.objs.size
 noex : ∀ b o, X.base.get? b = some o -> b ∉ X.ex
 exfs : ∀ b ∈ X.ex, b ∉ X.fs
 funs : X.s₀.heap.FunFrames X.base X.outer
 frf : ∀ b ∈ X.fs, X.H₀ b = none
structure Inv (X : Cx) (pins : List (Addr × Obj)) (σ : List (Option V)) (H : Hp) (s : Shared) : Prop where
 ok : X.Ok
 os : s.os = X.s₀.os
 bare : AllBare s.gens
 base : Un X.fs X.ex X.H₀ H X.s₀.heap s.heap
 loc : ∃ m, s.heap.Ns X.env.locals m /\ ∀ (i : Nat) (x : Str) (v : V), X.N[i]? = some x -> σ[i]? = some (some v) -> Vis X.env.scope x -> ∃ u, RelV v u /\ Look X.env s.heap m x u
 cell : ∀ x c, X.env.cells.lookup x = some c -> ∃ v, s.heap.IsCell c v
 free : H X.env.locals = none
 freeC : ∀ x c, X.env.cells.lookup x = some c -> H c = none
 pin : ∀ p ∈ X.pn ++ pins, s.heap.get? p.1 = some p.2 /\ H p.1 = none /\ p.1 ≠ X.env.locals /\ p.1 ∉ X.fs /\ ∀ v, p.2.data ≠ .cell v
 hok : HOk X.prog X.w H s.heap
 len : σ.length = X.N.length
section
variable {X : Cx} {pins : List (Addr × Obj)} {σ : List (Option V)} {H H' : Hp} {s : Shared} {h' : Heap}
theorem Cx.Ok.nofr (ok : X.Ok) {b : Addr} {o : Obj} (e : X.base.get? b = some o) : b ∉ X.fs := fun hb => by
 have := (ok.funs.mem hb).1
 rw [e] at this; cases this
theorem Inv.bs (I : Inv X pins σ H s) : ∀ b o, X.base.get? b = some o -> s.heap.get? b = some o /\ H b = none := fun b o e =>
 ⟨I.base.keep b o (I.ok.bs b o e).1 (I.ok.bs b o e).2 (I.ok.nofr e) (I.ok.noex b o e), I.base.free b o (I.ok.bs b o e).1 (I.ok.bs b o e).2 (I.ok.noex b o e)⟩
theorem Inv.bk (I : Inv X pins σ H s) : ∀ b o, X.base.get? b = some o -> s.heap.get? b = some o := fun b o e => (I.bs b o e).1
theorem Inv.mod (I : Inv X pins σ H s) : Mod X.K X.mg X.base := I.ok.mod
theorem Inv.kIn (I : Inv X pins σ H s) : X.K.In s.heap := I.ok.mod.kin.keeps I.bk
theorem Inv.lt (I : Inv X pins σ H s) : X.env.locals < s.heap.objs.size := let ⟨_, hn, _⟩ := I.loc; hn.lt
theorem Inv.sz (I : Inv X pins σ H s) : X.s₀.heap.objs.size <= s.heap.objs.size := Nat.le_trans I.ok.above (Nat.le_of_lt I.lt)
theorem Inv.nofs (I : Inv X pins σ H s) {a : Addr} (h : s.heap.objs.size <= a) : a ∉ X.fs := fun hb => by
 obtain ⟨_, o, ho, _⟩ := I.ok.funs.mem hb
 exact absurd (Nat.lt_of_lt_of_le (Heap.lt_size ho) (Nat.le_trans I.sz h)) (Nat.lt_irrefl _)
theorem Inv.cne (I : Inv X pins σ H s) : ∀ x c, X.env.cells.lookup x = some c -> c ≠ X.env.locals := fun x c e z => by
 obtain ⟨v, o, ho, hd⟩ := I.cell x c e
 obtain ⟨m, ⟨o', es, ep, ho', hd', _⟩, _⟩ := I.loc
 rw [z, ho'] at ho; cases ho; rw [hd'] at hd; cases hd
theorem Inv.funs (I : Inv X pins σ H s) : s.heap.FunFrames X.base X.outer := by
 have all : ∀ (l : List Env), (∀ b ∈ frs l, b ∈ X.fs) -> X.s₀.heap.FunFrames X.base l -> s.heap.FunFrames X.base l := by
  intro l
  induction l with
  | nil => intro _ _; trivial
  | cons env r ih =>
   intro hs hl
   obtain ⟨hk, ⟨L, o, hf, hn, ho, hd⟩, hr⟩ := hl
   have hL : L ∈ X.fs := hs L (by unfold frs; rw [List.filterMap_cons, hf]; exact List.mem_cons_self)
   obtain ⟨sl, e⟩ := I.base.slot L o ho (I.ok.frf L hL) hL fun z => I.ok.exfs L z hL
   exact ⟨hk, ⟨L, _, hf, hn, e, hd⟩, ih (fun b hb => hs b (by unfold frs; rw [List.filterMap_cons, hf]; exact List.mem_cons_of_mem _ hb)) hr⟩
 exact all X.outer (fun _ hb => hb) I.ok.funs
theorem Inv.stack (I : Inv X pins σ H s) : s.heap.FunFrames X.base X.stack := by
 rcases I.ok.stk with e | ⟨e, hf⟩
 ·rw [e]; exact I.funs
 ·rw [e]
  obtain ⟨m, hn, _⟩ := I.loc
  refine .cons (by rw [I.ok.kind]; decide) hf hn ?_ I.funs
  exact Heap.get?_none_of_le (Nat.le_trans I.ok.bsz I.ok.above)
theorem Inv.stkSub (I : Inv X pins σ H s) : ∀ b ∈ frs X.stack, b ∈ X.env.locals :: X.fs := fun b hb => by
 rcases I.ok.stk with e | ⟨e, hf⟩
 ·rw [e] at hb; exact List.mem_cons_of_mem _ hb
 ·rw [e] at hb
  unfold frs at hb
  rw [List.filterMap_cons, hf] at hb
  exact hb
theorem Inv.stkFree (I : Inv X pins σ H s) : ∀ b ∈ frs X.stack, H b = none := fun b hb => by
 rcases List.mem_cons.mp (I.stkSub b hb) with e | hb
 ·rw [e]; exact I.free
 ·obtain ⟨_, o, ho, _⟩ := I.ok.funs.mem hb
  exact I.base.free b o ho (I.ok.frf b hb) fun z => I.ok.exfs b z hb
theorem Inv.step {g' : Array GenState} {t' : Nat} {d' : Drawn} {ch : List Addr} (I : Inv X pins σ H s)
  (hch : ∀ b ∈ ch, (b ∈ X.ex ∨ X.s₀.heap.objs.size <= b) /\ b ≠ X.env.locals /\ (∀ x c, X.env.cells.lookup x = some c -> c ≠ b) /\ ∀ p ∈ X.pn ++ pins, p.1 ≠ b)
  (keep : ∀ b o, b ≠ X.env.locals -> b ∉ X.fs -> b ∉ ch -> s.heap.get? b = some o -> H b = none -> h'.get? b = some o)
  (slot : ∀ b o, b ≠ X.env.locals -> b ∈ X.fs -> b ∉ ch -> s.heap.get? b = some o -> H b = none -> ∃ sl, h'.get? b = some { o with slots := sl }) (free : ∀ b o, b ∉ ch -> s.heap.get? b = some o -> H b = none -> H' b = none)
  (there : ∀ b o, b ∉ ch -> s.heap.get? b = some o -> ∃ o', h'.get? b = some o')
  (tups : ∀ b xs, H b = some (.tup xs) -> H' b = some (.tup xs)) (frzs : ∀ b o u, H b = some (.frz o u) -> H' b = some (.frz o u)) (tbls : ∀ b ps, H b = some (.tbl ps) -> ∃ more, H' b = some (.tbl (ps ++ more)))
  (ns : ∀ m, s.heap.Ns X.env.locals m -> h'.Ns X.env.locals m) (hok : HOk X.prog X.w H' h') (hg : AllBare g') :
  Inv X pins σ H' { s with heap := h', gens := g', drawn := d', toks := t' } := by
 have neL : ∀ b o, X.s₀.heap.get? b = some o -> b ≠ X.env.locals := fun b o e => Nat.ne_of_lt (Nat.lt_of_lt_of_le (Heap.lt_size e) I.ok.above)
 have neC : ∀ b o, X.s₀.heap.get? b = some o -> b ∉ X.ex -> b ∉ ch := fun b o e hx hb => by
  rcases (hch b hb).1 with z | z
  ·exact hx z
  ·exact absurd (Nat.lt_of_lt_of_le (Heap.lt_size e) z) (Nat.lt_irrefl _)
 have cellK : ∀ x c, X.env.cells.lookup x = some c -> ∀ v, s.heap.IsCell c v -> h'.IsCell c v := fun x c e v ⟨o, ho, hd⟩ => by
  have nch : c ∉ ch := fun z => (hch c z).2.2.1 x c e rfl
  by_cases hc : c ∈ X.fs
  ·obtain ⟨sl, q⟩ := slot c o (I.cne x c e) hc nch ho (I.freeC x c e)
   exact ⟨_, q, hd⟩
  ·exact ⟨o, keep c o (I.cne x c e) hc nch ho (I.freeC x c e), hd⟩
 refine ⟨I.ok, I.os, hg, ⟨fun b o e n hb hx => ?_, fun b o e n hb hx => ?_, fun b o e n hx => ?_, fun b o e hx => ?_, fun b xs e => tups b xs (I.base.tups b xs e), fun b o xs e => frzs b o xs (I.base.frzs b o xs e), fun b ps e => ?_⟩, ?_, fun x c e => ?_, ?_, fun x c e => ?_, fun p hp => ?_, hok, I.len⟩
 ·exact keep b o (neL b o e) hb (neC b o e hx) (I.base.keep b o e n hb hx) (I.base.free b o e n hx)
 ·obtain ⟨sl, e1⟩ := I.base.slot b o e n hb hx
  obtain ⟨sl', e2⟩ := slot b _ (neL b o e) hb (neC b o e hx) e1 (I.base.free b o e n hx)
  exact ⟨sl', e2⟩
 ·obtain ⟨o', e1⟩ := I.base.there b o e hx
  exact free b o' (neC b o e hx) e1 (I.base.free b o e n hx)
 ·obtain ⟨o', e1⟩ := I.base.there b o e hx
  exact there b o' (neC b o e hx) e1
 ·obtain ⟨m1, e1⟩ := I.base.tbls b ps e
  obtain ⟨m2, e2⟩ := tbls b _ e1
  exact ⟨m1 ++ m2, by rw [e2, Array.append_assoc]⟩
 ·obtain ⟨m, hn, hl⟩ := I.loc
  refine ⟨m, ns m hn, fun i x v e1 e2 e3 => ?_⟩
  obtain ⟨u, r, l⟩ := hl i x v e1 e2 e3
  refine ⟨u, r, ?_⟩
  rcases l with l | ⟨k, c, e, z⟩
  ·exact .inl l
  ·exact .inr ⟨k, c, e, cellK x c e _ z⟩
 ·obtain ⟨v, z⟩ := I.cell x c e
  exact ⟨v, cellK x c e v z⟩
 ·obtain ⟨m, ⟨o, _, _, ho, _⟩, _⟩ := I.loc
  exact free _ o (fun z => (hch _ z).2.1 rfl) ho I.free
 ·obtain ⟨v, o, ho, hd⟩ := I.cell x c e
  exact free c o (fun z => (hch c z).2.2.1 x c e rfl) ho (I.freeC x c e)
 ·obtain ⟨e, n, ne, nf, d⟩ := I.pin p hp
  have nch : p.1 ∉ ch := fun z => (hch p.1 z).2.2.2 p hp rfl
  exact ⟨keep p.1 p.2 ne nf nch e n, free p.1 p.2 nch e n, ne, nf, d⟩
theorem Inv.un {t' : Nat} (I : Inv X pins σ H s) (u : Un X.fs [] H H' s.heap h') (hok : HOk X.prog X.w H' h') : Inv X pins σ H' { s with heap := h', toks := t' } := by
 obtain ⟨m, ⟨o, es, ep, ho, r⟩, _⟩ := id I.loc
 obtain ⟨sl, hL⟩ := u.any ho I.free (by simp)
 exact I.step (g' := s.gens) (d' := s.drawn) (ch := []) (fun _ z => nomatch z) (fun b o _ hb _ e n => u.keep b o e n hb (by simp)) (fun b o _ hb _ e n => u.slot b o e n hb (by simp)) (fun b o _ e n => u.free b o e n (by simp)) (fun b o _ e => u.there b o e (by simp)) u.tups u.frzs u.tbls (fun m' hm => by
  obtain ⟨o', es', ep', ho', r'⟩ := hm
  rw [ho] at ho'; cases ho'
  exact ⟨_, es', ep', hL, r'⟩) hok I.bare
theorem Inv.call {g' : Array GenState} {t' : Nat} {d' : Drawn} {ch : List Addr} (I : Inv X pins σ H s) (u : Un (frs X.stack) ch H H' s.heap h') (hok : HOk X.prog X.w H' h') (hg : AllBare g')
  (hch : ∀ b ∈ ch, (b ∈ X.ex ∨ X.s₀.heap.objs.size <= b) /\ b ≠ X.env.locals /\ (∀ x c, X.env.cells.lookup x = some c -> c ≠ b) /\ ∀ p ∈ X.pn ++ pins, p.1 ≠ b) :
  Inv X pins σ H' { s with heap := h', gens := g', drawn := d', toks := t' } := by
 obtain ⟨m, ⟨o, es, ep, ho, r⟩, _⟩ := id I.loc
 obtain ⟨sl, hL⟩ := u.any ho I.free fun z => (hch _ z).2.1 rfl
 exact I.step (ch := ch) hch (fun b o hL hb hc e n => u.keep b o e n (fun z => (List.mem_cons.mp (I.stkSub b z)).elim hL hb) hc) (fun b o _ _ hc e n => u.any e n hc) (fun b o hc e n => u.free b o e n hc) (fun b o hc e => u.there b o e hc) u.tups u.frzs u.tbls (fun m' hm => by
  obtain ⟨o', es', ep', ho', r'⟩ := hm
  rw [ho] at ho'; cases ho'
  exact ⟨_, es', ep', hL, r'⟩) hok hg
theorem Inv.turned {t' : Nat} {it : Addr} (I : Inv X pins σ H s) (k : ∀ b o, b ≠ it -> s.heap.get? b = some o -> h'.get? b = some o) (hn : H it = none) (hL : it ≠ X.env.locals)
  (h1 : it ∈ X.ex ∨ X.s₀.heap.objs.size <= it) (h2 : ∀ x c, X.env.cells.lookup x = some c -> c ≠ it) (h3 : ∀ p ∈ X.pn ++ pins, p.1 ≠ it) : Inv X pins σ H { s with heap := h', toks := t' } := by
 have nit : ∀ b u, H b = some u -> b ≠ it := fun b u e z => by rw [z, hn] at e; cases e
 refine I.step (g' := s.gens) (d' := s.drawn) (ch := [it]) (fun b hb => ?_) (fun b o _ _ hc e _ => k b o (fun z => hc (by simp [z])) e) (fun b o _ _ hc e _ => ⟨o.slots, k b o (fun z => hc (by simp [z])) e⟩) (fun _ _ _ _ n => n)
  (fun b o hc e => ⟨o, k b o (fun z => hc (by simp [z])) e⟩) (fun _ _ e => e) (fun _ _ _ e => e) (fun b ps e => ⟨#[], by rw [e]; simp⟩) (fun m hm => ?_) (fun b u e => ?_) I.bare
 ·have e : b = it := by simpa using hb
  subst e
  exact ⟨h1, hL, h2, h3⟩
 ·obtain ⟨o, es, ep, ho, r⟩ := hm
  exact ⟨o, es, ep, k _ o (Ne.symm hL) ho, r⟩
 ·refine (I.hok b u e).stay (fun c v hc q => k c v ?_ q) (fun _ q => q) fun _ _ q => q
  rcases hc with z | z
  ·rw [z]; exact nit b u e
  ·exact nit c _ z
theorem Inv.tok (I : Inv X pins σ H s) (t : Nat) : Inv X pins σ H { s with toks := t } := I.un (h' := s.heap) (t' := t) Un.refl I.hok
theorem Inv.kept {t' : Nat} (I : Inv X pins σ H s) (k : ∀ b u, s.heap.get? b = some u -> h'.get? b = some u) : Inv X pins σ H { s with heap := h', toks := t' } := I.un (Un.kept k) (I.hok.kept k)
theorem Inv.laid {a : Addr} {o : HO} {t' : Nat} (I : Inv X pins σ H s) (k : ∀ b u, s.heap.get? b = some u -> h'.get? b = some u) (hp : s.heap.objs.size <= a) (new : qa3s X.prog X.w (upd H a o) h' a o) :
  Inv X pins σ (upd H a o) { s with heap := h', toks := t' } := I.un (Un.laid k hp (I.hok.fresh hp)) (I.hok.laid k hp new)
theorem Inv.write {x e : Addr} {o : HO} {t' : Nat} (I : Inv X pins σ H s) (mu : Mut (H x)) (he : e = x ∨ H e = some (.own x)) (k : ∀ b u, b ≠ e -> s.heap.get? b = some u -> h'.get? b = some u) (heo : ∃ u, h'.get? e = some u)
  (new : qa3s X.prog X.w (upd H x o) h' x o) : Inv X pins σ (upd H x o) { s with heap := h', toks := t' } := I.un (Un.write mu he k heo) (I.hok.write mu he k heo new)
theorem Inv.pins_of {pins' : List (Addr × Obj)} (I : Inv X pins σ H s) (h : ∀ p ∈ pins', s.heap.get? p.1 = some p.2 /\ H p.1 = none /\ p.1 ≠ X.env.locals /\ p.1 ∉ X.fs /\ ∀ v, p.2.data ≠ .cell v) : Inv X pins' σ H s :=
 ⟨I.ok, I.os, I.bare, I.base, I.loc, I.cell, I.free, I.freeC, fun p hp => (List.mem_append.mp hp).elim (fun z => I.pin p (List.mem_append_left _ z)) (h p), I.hok, I.len⟩
theorem qc8c {N : List Str} (hN : N.Nodup) {i j : Nat} {x : Str} (a : N[i]? = some x) (b : N[j]? = some x) : i = j := by
 obtain ⟨h1, e1⟩ := List.getElem?_eq_some_iff.mp a
 obtain ⟨h2, e2⟩ := List.getElem?_eq_some_iff.mp b
 exact (List.getElem_inj hN).mp (e1.trans e2.symm)
theorem qc6d {M : Model} {A : Around} {E : Value -> Shared -> Prop} {i : Nat} {x : Str} {v : V} {u : Value} {Q : Unit -> Shared -> Prop} (I : Inv X pins σ H s) (hN : X.N.Nodup) (hi : X.N[i]? = some x) (hx : Loc X.env.scope x) (r : RelV v u)
  (h : ∀ s', Inv X pins (σ.set i (some v)) H s' -> (∃ a, Heap.SameBut a s.heap s'.heap /\ (a = X.env.locals ∨ X.env.cells.lookup x = some a)) -> Q () s') (hf : X.fn x = true ∨ X.env.scope.names.lookup x = some .local := by first | exact .inl rfl | exact .inr rfl | assumption) : wpAny M A (storeName X.env x u) Q E s := by
 obtain ⟨m, hn, hl⟩ := id I.loc
 have hcls : (X.env.scope.kind == .class || (X.env.scope.kind == .module && X.env.locals != X.env.globals)) = false := by rw [I.ok.kind]; rfl
 have hiσ : i < σ.length := by rw [I.len]; exact (List.getElem?_eq_some_iff.mp hi).1
 have cne := I.cne
 have tracked : ∀ {a : Addr} {h' : Heap}, (∃ o, s.heap.get? a = some o /\ H a = none) -> Heap.SameBut a s.heap h' -> HOk X.prog X.w H h' := fun {a h'} ha hs b ob e => by
  obtain ⟨_, _, hfree⟩ := ha
  refine (I.hok b ob e).stay (fun c w' hc q => (hs.2 c ?_).trans q) (fun _ q => q) fun _ _ q => q
  rintro rfl
  rcases hc with rfl | hc
  ·rw [hfree] at e; cases e
  ·rw [hfree] at hc; cases hc
 rcases hx with hk | hk
 ·refine wpAny_storeName_local hk hn (fun h' hn' hs => ?_) hcls
  obtain ⟨oL, _, _, hoL, _⟩ := id hn
  refine h _ ⟨I.ok, I.os, I.bare, ⟨fun b o e n hb hx => ?_, fun b o e n hb hx => ?_, I.base.free, fun b o e hx => ?_, I.base.tups, I.base.frzs, I.base.tbls⟩, ⟨_, hn', fun j y v' e1 e2 e3 => ?_⟩, fun y c e => ?_, I.free, I.freeC, fun p hp => ?_, tracked ⟨oL, hoL, I.free⟩ hs, by simpa using I.len⟩ ⟨_, hs, .inl rfl⟩
  ·exact (hs.2 b (Nat.ne_of_lt (Nat.lt_of_lt_of_le (Heap.lt_size e) I.ok.above))).trans (I.base.keep b o e n hb hx)
  ·obtain ⟨sl, e1⟩ := I.base.slot b o e n hb hx
   exact ⟨sl, (hs.2 b (Nat.ne_of_lt (Nat.lt_of_lt_of_le (Heap.lt_size e) I.ok.above))).trans e1⟩
  ·obtain ⟨o', e1⟩ := I.base.there b o e hx
   exact ⟨o', (hs.2 b (Nat.ne_of_lt (Nat.lt_of_lt_of_le (Heap.lt_size e) I.ok.above))).trans e1⟩
  ·by_cases hj : j = i
   ·subst hj
    rw [hi] at e1; cases e1
    rw [List.getElem?_set_self hiσ] at e2
    cases e2
    exact ⟨u, r, .inl ⟨hk, by simp⟩⟩
   ·rw [List.getElem?_set_ne (Ne.symm hj)] at e2
    obtain ⟨u', r', q⟩ := hl j y v' e1 e2 e3
    refine ⟨u', r', ?_⟩
    rcases q with ⟨k, e⟩ | ⟨k, c, e, z⟩
    ·refine .inl ⟨k, ?_⟩
     have : y ≠ x := fun e => hj (qc8c hN e1 (e ▸ hi))
     simp [this, e]
    ·exact .inr ⟨k, c, e, z.sameBut hs (cne y c e)⟩
  ·obtain ⟨w', z⟩ := I.cell y c e
   exact ⟨w', z.sameBut hs (cne y c e)⟩
  ·obtain ⟨e, n, ne, nf, d⟩ := I.pin p hp
   exact ⟨(hs.2 p.1 ne).trans e, n, ne, nf, d⟩
 ·have hfn : X.fn x = true := by
   rcases hf with z | z
   ·exact z
   ·rw [z] at hk; cases hk
  obtain ⟨c, hc⟩ := I.ok.has x (.inl hk)
  obtain ⟨w', z⟩ := I.cell x c hc
  refine wpAny_storeName_cell I.ok.kind hk hc z (fun h' hc' hs => ?_)
  obtain ⟨oc, hoc, hocd⟩ := id z
  refine h { s with heap := h' } ⟨I.ok, I.os, I.bare, ⟨fun b o e n hb hx => ?_, fun b o e n hb hx => ?_, I.base.free, fun b o e hx => ?_, I.base.tups, I.base.frzs, I.base.tbls⟩, ⟨m, hn.sameBut hs (Ne.symm (cne x c hc)), fun j y v' e1 e2 e3 => ?_⟩, fun y c' e => ?_, I.free, I.freeC, fun p hp => ?_, tracked ⟨oc, hoc, I.freeC x c hc⟩ hs, by simpa using I.len⟩ ⟨c, hs, .inr hc⟩
  ·exact (hs.2 b (Nat.ne_of_lt (Nat.lt_of_lt_of_le (Heap.lt_size e) (I.ok.cab x c hfn hc)))).trans (I.base.keep b o e n hb hx)
  ·obtain ⟨sl, e1⟩ := I.base.slot b o e n hb hx
   exact ⟨sl, (hs.2 b (Nat.ne_of_lt (Nat.lt_of_lt_of_le (Heap.lt_size e) (I.ok.cab x c hfn hc)))).trans e1⟩
  ·obtain ⟨o', e1⟩ := I.base.there b o e hx
   exact ⟨o', (hs.2 b (Nat.ne_of_lt (Nat.lt_of_lt_of_le (Heap.lt_size e) (I.ok.cab x c hfn hc)))).trans e1⟩
  ·by_cases hj : j = i
   ·subst hj
    rw [hi] at e1; cases e1
    rw [List.getElem?_set_self hiσ] at e2
    cases e2
    exact ⟨u, r, .inr ⟨.inl hk, c, hc, hc'⟩⟩
   ·rw [List.getElem?_set_ne (Ne.symm hj)] at e2
    obtain ⟨u', r', q⟩ := hl j y v' e1 e2 e3
    refine ⟨u', r', ?_⟩
    rcases q with q | ⟨k, c', e, z'⟩
    ·exact .inl q
    ·refine .inr ⟨k, c', e, z'.sameBut hs ?_⟩
     rintro rfl
     exact hj (qc8c hN e1 (I.ok.inj _ _ _ e hc ▸ hi))
  ·by_cases hcc : c' = c
   ·subst hcc; exact ⟨_, hc'⟩
   ·obtain ⟨w2, z2⟩ := I.cell y c' e
    exact ⟨w2, z2.sameBut hs hcc⟩
  ·obtain ⟨e, n, ne, nf, d⟩ := I.pin p hp
   refine ⟨(hs.2 p.1 ?_).trans e, n, ne, nf, d⟩
   intro q
   rw [q, hoc] at e
   have q' : oc = p.2 := Option.some.inj e
   exact d w' (by rw [← q']; exact hocd)
theorem qc8d {M : Model} {A : Around} {E : Value -> Shared -> Prop} {i : Nat} {x : Str} {v : V} {u : Value} {Q : Unit -> Shared -> Prop} (I : Inv X pins σ H s) (hN : X.N.Nodup) (hi : X.N[i]? = some x) (hx : Loc X.env.scope x) (r : RelV v u)
  (h : ∀ s', Inv X pins (σ.set i (some v)) H s' -> Q () s') (hf : X.fn x = true ∨ X.env.scope.names.lookup x = some .local := by first | exact .inl rfl | exact .inr rfl | assumption) : wpAny M A (storeName X.env x u) Q E s :=
 qc6d I hN hi hx r (fun s' I' _ => h s' I') hf
theorem Inv.call' {s' : Shared} {ch : List Addr} (I : Inv X pins σ H s) (ho : s'.os = s.os) (u : Un (frs X.stack) ch H H' s.heap s'.heap) (hok : HOk X.prog X.w H' s'.heap) (hg : AllBare s'.gens)
  (hch : ∀ b ∈ ch, (b ∈ X.ex ∨ X.s₀.heap.objs.size <= b) /\ b ≠ X.env.locals /\ (∀ x c, X.env.cells.lookup x = some c -> c ≠ b) /\ ∀ p ∈ X.pn ++ pins, p.1 ≠ b) : Inv X pins σ H' s' := by
 obtain ⟨h', g', d', t', o'⟩ := s'
 have e : o' = s.os := ho
 subst e
 exact I.call (g' := g') (t' := t') (d' := d') u hok hg hch
end
noncomputable abbrev XK := Value -> Option Addr -> Hp -> Prop
noncomputable abbrev St := List (Option V)
noncomputable abbrev VK := V -> Hp -> Prop
noncomputable abbrev TE := St -> Hp -> VK -> Prop
noncomputable abbrev TT := St -> Hp -> (Bool -> Hp -> Prop) -> Prop
noncomputable abbrev TA := St -> Hp -> (List V -> Hp -> Prop) -> Prop
structure Ends where
 nx : St -> Hp -> Prop
 rt : VK
 bk : St -> Hp -> Prop := fun _ _ => False
 ct : St -> Hp -> Prop := fun _ _ => False
noncomputable abbrev TS := Ends -> St -> Hp -> Prop
noncomputable def EP (X : Cx) (pins : List (Addr × Obj)) (σ : St) (Q : VK) (u : Value) (s' : Shared) : Prop := ∃ v H', Inv X pins σ H' s' /\ RelV v u /\ Q v H'
noncomputable def TP (X : Cx) (pins : List (Addr × Obj)) (σ : St) (Q : Bool -> Hp -> Prop) (b : Bool) (s' : Shared) : Prop := ∃ H', Inv X pins σ H' s' /\ Q b H'
noncomputable def AP (X : Cx) (pins : List (Addr × Obj)) (σ : St) (Q : List V -> Hp -> Prop) (us : List Value) (s' : Shared) : Prop := ∃ vs H', Inv X pins σ H' s' /\ Vals vs us /\ Q vs H'
noncomputable def SP (X : Cx) (pins : List (Addr × Obj)) (D : Ends) (f : Flow) (s' : Shared) : Prop :=
 match f with
 | .next => ∃ σ' H', Inv X pins σ' H' s' /\ D.nx σ' H'
 | .brk => ∃ σ' H', Inv X pins σ' H' s' /\ D.bk σ' H'
 | .cont => ∃ σ' H', Inv X pins σ' H' s' /\ D.ct σ' H'
 | .ret u => ∃ v σ' H', Inv X pins σ' H' s' /\ RelV v u /\ D.rt v H'
noncomputable def PE (X : Cx) (e : Expr) (t : TE) : Prop :=
 ∀ (pins : List (Addr × Obj)) (s : Shared) (σ : St) (H : Hp) (Q : VK), Inv X pins σ H s -> t σ H Q -> wpAny (model X.prog X.w) X.A (eval e X.env) (EP X pins σ Q) X.xe s
noncomputable def PT (X : Cx) (e : Expr) (t : TT) : Prop :=
 ∀ (pins : List (Addr × Obj)) (s : Shared) (σ : St) (H : Hp) (Q : Bool -> Hp -> Prop), Inv X pins σ H s -> t σ H Q -> wpAny (model X.prog X.w) X.A (isTrue e X.env (eval e X.env)) (TP X pins σ Q) X.xe s
noncomputable def PW (X : Cx) (e : Expr) (t : TT) : Prop :=
 ∀ (whole : Sem Value) (pins : List (Addr × Obj)) (s : Shared) (σ : St) (H : Hp) (Q : Bool -> Hp -> Prop), Inv X pins σ H s -> t σ H Q -> wpAny (model X.prog X.w) X.A (isTrue e X.env whole) (TP X pins σ Q) X.xe s
theorem PW.pt {X : Cx} {e : Expr} {t : TT} (h : PW X e t) : PT X e t := h _
noncomputable def PA (X : Cx) (es : List Expr) (t : TA) : Prop :=
 ∀ (pos : Pos) (pins : List (Addr × Obj)) (s : Shared) (σ : St) (H : Hp) (Q : List V -> Hp -> Prop), Inv X pins σ H s -> t σ H Q -> wpAny (model X.prog X.w) X.A (spliced (backTo pos (starEach es X.env))) (AP X pins σ Q) X.xe s
noncomputable def PS (X : Cx) (st : Stmt) (t : TS) : Prop :=
 ∀ (pins : List (Addr × Obj)) (s : Shared) (σ : St) (H : Hp) (D : Ends), Inv X pins σ H s -> t D σ H -> wpAny (model X.prog X.w) X.A (exec st X.env) (SP X pins D) X.xe s
noncomputable def PSs (X : Cx) (st : List Stmt) (t : TS) : Prop :=
 ∀ (pins : List (Addr × Obj)) (s : Shared) (σ : St) (H : Hp) (D : Ends), Inv X pins σ H s -> t D σ H -> wpAny (model X.prog X.w) X.A (execs st X.env) (SP X pins D) X.xe s
theorem thn {α : Type} {t : Sem α} {Q Q' : α -> Shared -> Prop} {M : Model} {A : Around} {E : Value -> Shared -> Prop} {s : Shared} (h : wpAny M A t Q E s) (hQ : ∀ a s, Q a s -> Q' a s) : wpAny M A t Q' E s := wpAny_mono h hQ fun _ _ x => x
end L2
namespace L2
open PySem PySem.Spec PyProof.Rows
section
variable {X : Cx}
noncomputable def tVar (i : Nat) : TE := fun σ H Q => ∃ v, σ[i]? = some (some v) /\ Q v H
noncomputable def tC (v : V) : TE := fun _ H Q => Q v H
theorem qb1k {i : Nat} {x : Str} {pos : Pos} (hN : X.N[i]? = some x) (hv : Vis X.env.scope x) (hd : (x == ("__debug__" : Str)) = false := by decide) (hcd : (x == ("__classdict__" : Str)) = false := by decide) : PE X (.Name x pos) (tVar i) := by
 intro pins s σ H Q I h
 obtain ⟨v, e, h⟩ := h
 obtain ⟨m, hn, hl⟩ := I.loc
 obtain ⟨u, r, l⟩ := hl i x v hN e hv
 have fin : EP X pins σ Q u s := ⟨v, H, I, r, h⟩
 rcases l with ⟨hk, hm⟩ | ⟨hk, c, hc, hcell⟩
 ·exact wpAny_Name (wpAny_loadName_local I.ok.kind hk hn hm fin) hd
 ·rcases hk with hk | hk
  ·exact wpAny_Name (wpAny_loadName_cell I.ok.kind hk hc hcell fin) hd
  ·exact wpAny_Name (wpAny_loadName_free I.ok.kind hk hc hcell fin hcd) hd
theorem qa2q {i j pos} : PE X (.Constant (.int i) j pos) (tC (.int i)) := fun _ _ _ H _ I h => wpAny_Constant_int ⟨.int i, H, I.tok _, ⟨_, rfl⟩, h⟩
theorem pe_bl {b j pos} : PE X (.Constant (.bool b) j pos) (tC (.bl b)) := fun _ _ _ H _ I h => Constant_bool ⟨.bl b, H, I, rfl, h⟩
theorem pe_non {j pos} : PE X (.Constant .none j pos) (tC .non) := fun _ _ _ H _ I h => Constant_none ⟨.non, H, I, rfl, h⟩
theorem qc8e {x j pos} : PE X (.Constant (.str x) j pos) (tC (.str x)) := fun _ _ _ H _ I h => Calls.Constant_str ⟨.str x, H, I.tok _, ⟨_, rfl⟩, h⟩
noncomputable def Gl (X : Cx) (x : Str) : Prop := X.env.kindOf x = some .globalImplicit
theorem qd7y {E : Value -> Shared -> Prop} {pins : List (Addr × Obj)} {s : Shared} {σ : St} {H : Hp} {x : Str} {u : Value} {pos : Pos} {Q : Value -> Shared -> Prop} (I : Inv X pins σ H s) (hg : Gl X x) (hm : X.mg x = some u) (h : Q u s)
  (hd : (x == ("__debug__" : Str)) = false := by decide) : wpAny (model X.prog X.w) X.A (eval (.Name x pos) X.env) Q E s :=
 Calls.Name_function_global I.ok.kind hg (Calls.loadGlobal_global (by rw [I.ok.glob]; exact I.mod.glob.keeps I.bk) hm h) hd
theorem qb1l {E : Value -> Shared -> Prop} {pins : List (Addr × Obj)} {s : Shared} {σ : St} {H : Hp} {x : Str} {u : Value} {pos : Pos} {Q : Value -> Shared -> Prop} (I : Inv X pins σ H s) (hg : Gl X x) (hm : X.mg x = none) (hv : bootBuiltins x = some u) (h : Q u s)
  (hn : x ≠ "__name__" := by decide) (hd : (x == ("__debug__" : Str)) = false := by decide) : wpAny (model X.prog X.w) X.A (eval (.Name x pos) X.env) Q E s := by
 obtain ⟨mb, h1, h2⟩ := I.mod.blt
 exact Calls.Name_function_global I.ok.kind hg (Calls.loadGlobal_builtin (by rw [I.ok.glob]; exact I.mod.glob.keeps I.bk) hm (by rw [I.ok.blt]; exact h1.keeps I.bk) ((h2 x hn).trans hv) h) hd
theorem qc4e {x : Str} {v : V} {u : Value} {pos : Pos} (hg : Gl X x) (hm : X.mg x = some u) (r : RelV v u) (hd : (x == ("__debug__" : Str)) = false := by decide) : PE X (.Name x pos) (tC v) :=
 fun _ _ _ H _ I h => qd7y I hg hm ⟨v, H, I, r, h⟩ hd
theorem pe_bltn {x : Str} {v : V} {u : Value} {pos : Pos} (hg : Gl X x) (hm : X.mg x = none) (hv : bootBuiltins x = some u) (r : RelV v u) (hn : x ≠ "__name__" := by decide) (hd : (x == ("__debug__" : Str)) = false := by decide) : PE X (.Name x pos) (tC v) :=
 fun _ _ _ H _ I h => qb1l I hg hm hv ⟨v, H, I, r, h⟩ hn hd
variable {a b : Expr} {ta tb : TE} {pos : Pos}
noncomputable def tB (t : TE) : TT := fun σ H Q => t σ H fun x H1 => ∃ c, x = .bl c /\ Q c H1
theorem pt_val {e : Expr} {t : TE} (h : PE X e t) (he : ∀ whole, isTrue e X.env whole = (do let v ← whole; standAt e.pos; holding [v] (truthy v)) := by intro _; rfl) : PT X e (tB t) := by
 intro pins s σ H Q I hw
 refine isTrue_plain (thn (h pins s σ H _ I hw) fun v s1 ⟨x, H1, I1, r1, q1⟩ => ?_) (he _)
 obtain ⟨d, rfl, q⟩ := q1
 cases r1
 exact wpAny_truthy_bool ⟨H1, I1, q⟩
variable {tA tB' : TT} {rest : List Expr}
noncomputable def tAnd (t u : TT) : TT := fun σ H Q => t σ H fun c H1 => if c = true then u σ H1 Q else Q false H1
noncomputable def tOr (t u : TT) : TT := fun σ H Q => t σ H fun c H1 => if c = true then Q true H1 else u σ H1 Q
noncomputable def tNot (t : TT) : TT := fun σ H Q => t σ H fun c H1 => Q (!c) H1
theorem pw_and1 (ha : PT X a tA) : PW X (.BoolOp .And [a] pos) tA := by
 intro wh pins s σ H Q I h
 refine isTrue_and (thn (ha pins s σ H Q I h) fun c s1 e => ?_)
 cases c with
 | true => exact isTrue_and_nil e
 | false => exact e
theorem pw_or1 (ha : PT X a tA) : PW X (.BoolOp .Or [a] pos) tA := by
 intro wh pins s σ H Q I h
 refine isTrue_or (thn (ha pins s σ H Q I h) fun c s1 e => ?_)
 cases c with
 | false => exact isTrue_or_nil e
 | true => exact e
theorem pw_and (ha : PT X a tA) (hb : PW X (.BoolOp .And (b :: rest) pos) tB') : PW X (.BoolOp .And (a :: b :: rest) pos) (tAnd tA tB') := by
 intro wh pins s σ H Q I h
 refine isTrue_and (thn (ha pins s σ H _ I h) fun c s1 ⟨H1, I1, q1⟩ => ?_)
 cases c with
 | true => exact hb wh pins s1 σ H1 Q I1 q1
 | false => exact ⟨H1, I1, q1⟩
theorem pw_or (ha : PT X a tA) (hb : PW X (.BoolOp .Or (b :: rest) pos) tB') : PW X (.BoolOp .Or (a :: b :: rest) pos) (tOr tA tB') := by
 intro wh pins s σ H Q I h
 refine isTrue_or (thn (ha pins s σ H _ I h) fun c s1 ⟨H1, I1, q1⟩ => ?_)
 cases c with
 | true => exact ⟨H1, I1, q1⟩
 | false => exact hb wh pins s1 σ H1 Q I1 q1
theorem pt_not (ha : PT X a tA) : PT X (.UnaryOp .Not a pos) (tNot tA) := by
 intro pins s σ H Q I h
 exact isTrue_not (ha pins s σ H (fun c H1 => Q (!c) H1) I h)
noncomputable def tAndV (ta tb : TE) : TE := fun σ H Q => ta σ H fun x H1 => ∃ c, x = .bl c /\ if c = true then tb σ H1 Q else Q (.bl false) H1
noncomputable def tOrV (ta tb : TE) : TE := fun σ H Q => ta σ H fun x H1 => ∃ c, x = .bl c /\ if c = true then Q (.bl true) H1 else tb σ H1 Q
noncomputable def tNotV (ta : TE) : TE := fun σ H Q => ta σ H fun x H1 => ∃ c, x = .bl c /\ Q (.bl (!c)) H1
theorem pe_one {op} {t : TE} (h : PE X a t) : PE X (.BoolOp op [a] pos) t := fun pins s σ H Q I hw => BoolOp_one (h pins s σ H Q I hw)
theorem pe_and (ha : PE X a ta) (hb : PE X (.BoolOp .And (b :: rest) pos) tb) : PE X (.BoolOp .And (a :: b :: rest) pos) (tAndV ta tb) := by
 intro pins s σ H Q I h
 refine BoolOp_and (thn (ha pins s σ H _ I h) fun v s1 ⟨x, H1, I1, r1, q1⟩ => ?_)
 obtain ⟨c, rfl, q1⟩ := q1
 cases r1
 refine wpAny_truthy_bool ?_
 cases c with
 | true => exact hb pins s1 σ H1 Q I1 q1
 | false => exact ⟨.bl false, H1, I1, rfl, q1⟩
theorem pe_or (ha : PE X a ta) (hb : PE X (.BoolOp .Or (b :: rest) pos) tb) : PE X (.BoolOp .Or (a :: b :: rest) pos) (tOrV ta tb) := by
 intro pins s σ H Q I h
 refine BoolOp_or (thn (ha pins s σ H _ I h) fun v s1 ⟨x, H1, I1, r1, q1⟩ => ?_)
 obtain ⟨c, rfl, q1⟩ := q1
 cases r1
 refine wpAny_truthy_bool ?_
 cases c with
 | false => exact hb pins s1 σ H1 Q I1 q1
 | true => exact ⟨.bl true, H1, I1, rfl, q1⟩
theorem pe_not (ha : PE X a ta) : PE X (.UnaryOp .Not a pos) (tNotV ta) := by
 intro pins s σ H Q I h
 refine UnaryOp_ (thn (ha pins s σ H _ I h) fun v s1 ⟨x, H1, I1, r1, q1⟩ => ?_)
 obtain ⟨c, rfl, q1⟩ := q1
 cases r1
 exact not_of (wpAny_truthy_bool ⟨.bl (!c), H1, I1, rfl, q1⟩)
noncomputable def tIf (t : TT) (ta tb : TE) : TE := fun σ H Q => t σ H fun c H1 => if c = true then ta σ H1 Q else tb σ H1 Q
theorem qe5f {c : Expr} (hc : PT X c tA) (ha : PE X a ta) (hb : PE X b tb) : PE X (.IfExp c a b pos) (tIf tA ta tb) := by
 intro pins s σ H Q I h
 refine wpAny_IfExp (thn (hc pins s σ H _ I h) fun d s1 ⟨H1, I1, q1⟩ => ?_)
 cases d with
 | true => exact ha pins s1 σ H1 Q I1 q1
 | false => exact hb pins s1 σ H1 Q I1 q1
end
end L2
namespace L2
open PySem PySem.Spec PyProof.Rows
noncomputable def SqL (K : PySem.W.Frag) (H : Hp) (a : Addr) (xs : List V) : Prop :=
 Rd H a (.lst xs) ∨
  ∃ (o : Obj) (its : Array Value) (n : Nat), K.lookup a = some o /\ o.cls = .type "list" /\ o.dict = none /\ o.data = .seq its n /\ its.size <= sizeLine /\ Vals xs its.toList
noncomputable def SqT (K : PySem.W.Frag) (H : Hp) (a : Addr) (xs : List V) : Prop :=
 Rd H a (.tup xs) ∨
  ∃ (o : Obj) (its : Array Value) (n : Nat), K.lookup a = some o /\ o.cls = .type "tuple" /\ o.data = .seq its n /\ its.size <= sizeLine /\ Vals xs its.toList
noncomputable def absV : Value -> Option V
 | .none => some .non
 | .bool b => some (.bl b)
 | .int i _ => some (.int i)
 | .str x _ => some (.str x)
 | .bytes b _ => some (.byt b)
 | .float b _ => some (.flt b)
 | .ref a => some (.ref a)
 | .type n => some (.ty n)
 | _ => none
theorem RelV.abs {x : V} {u : Value} (r : RelV x u) : absV u = some x := by
 cases x with
 | non => cases r; rfl
 | bl _ => cases r; rfl
 | int _ => obtain ⟨t, rfl⟩ := r; rfl
 | str _ => obtain ⟨t, rfl⟩ := r; rfl
 | byt _ => obtain ⟨t, rfl⟩ := r; rfl
 | flt _ => obtain ⟨t, rfl⟩ := r; rfl
 | ref _ => cases r; rfl
 | ty _ => cases r; rfl
theorem RelV.inj {x y : V} {u : Value} (r : RelV x u) (q : RelV y u) : x = y := Option.some.inj (r.abs.symm.trans q.abs)
theorem Vals.inj : ∀ {xs ys : List V} {us : List Value}, Vals xs us -> Vals ys us -> xs = ys
 | _, _, _, .nil, .nil => rfl
 | _, _, _, .cons r t, .cons r' t' => by rw [r.inj r', Vals.inj t t']
section
variable {X : Cx} {pins : List (Addr × Obj)} {σ : St} {H : Hp} {s : Shared} {a : Addr} {xs ys : List V}
theorem SqL.of {K : PySem.W.Frag} (h : H a = some (.lst xs)) : SqL K H a xs := .inl (.inl h)
theorem SqT.of {K : PySem.W.Frag} (h : H a = some (.tup xs)) : SqT K H a xs := .inl (.inl h)
theorem Inv.list (I : Inv X pins σ H s) (h : SqL X.K H a xs) : ∃ its : List Value, Vals xs its /\ PlainL s.heap a its.toArray /\ xs.length <= sizeLine := by
 rcases h with h | ⟨o, its, n, hk, hc, hd, hs, hz, r⟩
 ·obtain ⟨z, its, n, r, e⟩ := h.ok I.hok
  exact ⟨its, r, ⟨_, n, e, rfl, rfl, rfl⟩, z⟩
 ·refine ⟨its.toList, r, ⟨o, n, I.kIn a o hk, hc, hd, by simpa using hs⟩, ?_⟩
  have e := r.length
  simp only [Array.length_toList] at e
  omega
theorem Inv.tuple (I : Inv X pins σ H s) (h : SqT X.K H a xs) : ∃ its : List Value, Vals xs its /\ IsTup s.heap a its.toArray /\ xs.length <= sizeLine := by
 rcases h with h | ⟨o, its, n, hk, hc, hs, hz, r⟩
 ·obtain ⟨z, its, r, p⟩ := h.ok I.hok
  exact ⟨its, r, p, z⟩
 ·refine ⟨its.toList, r, ⟨o, I.kIn a o hk, hc, n, by simpa using hs⟩, ?_⟩
  have e := r.length
  simp only [Array.length_toList] at e
  omega
theorem Inv.list_inj (I : Inv X pins σ H s) (h : SqL X.K H a xs) (h' : SqL X.K H a ys) : xs = ys := by
 obtain ⟨its, r, ⟨o, n, e, _, _, d⟩, _⟩ := I.list h
 obtain ⟨its', r', ⟨o', n', e', _, _, d'⟩, _⟩ := I.list h'
 rw [e] at e'; cases e'
 rw [d] at d'
 injection d' with d1 _
 have : its = its' := by simpa using congrArg Array.toList d1
 subst this
 exact r.inj r'
theorem Inv.tuple_inj (I : Inv X pins σ H s) (h : SqT X.K H a xs) (h' : SqT X.K H a ys) : xs = ys := by
 obtain ⟨its, r, ⟨o, e, _, n, d⟩, _⟩ := I.tuple h
 obtain ⟨its', r', ⟨o', e', _, n', d'⟩, _⟩ := I.tuple h'
 rw [e] at e'; cases e'
 rw [d] at d'
 injection d' with d1 _
 have : its = its' := by simpa using congrArg Array.toList d1
 subst this
 exact r.inj r'
end
noncomputable abbrev Cx.wish (X : Cx) (E : Value -> Shared -> Prop) : Cx := { X with xe := E }
noncomputable abbrev Cx.nox (X : Cx) : Cx := X.wish fun _ _ => False
theorem Cx.Ok.wish {X : Cx} (ok : X.Ok) (E : Value -> Shared -> Prop) : (X.wish E).Ok :=
 ⟨ok.mod, ok.kind, ok.glob, ok.blt, ok.above, ok.inj, ok.has, ok.cab, ok.hd, ok.frames, ok.stk, ok.exf, ok.bs, ok.bsz, ok.noex, ok.exfs, ok.funs, ok.frf⟩
theorem Cx.Ok.unwish {X : Cx} {E : Value -> Shared -> Prop} (ok : (X.wish E).Ok) : X.Ok :=
 ⟨ok.mod, ok.kind, ok.glob, ok.blt, ok.above, ok.inj, ok.has, ok.cab, ok.hd, ok.frames, ok.stk, ok.exf, ok.bs, ok.bsz, ok.noex, ok.exfs, ok.funs, ok.frf⟩
section
variable {X : Cx} {pins : List (Addr × Obj)} {σ : St} {H : Hp} {s : Shared} {E : Value -> Shared -> Prop}
theorem Inv.wish (I : Inv X pins σ H s) (E : Value -> Shared -> Prop) : Inv (X.wish E) pins σ H s := ⟨I.ok.wish E, I.os, I.bare, I.base, I.loc, I.cell, I.free, I.freeC, I.pin, I.hok, I.len⟩
theorem Inv.unwish (I : Inv (X.wish E) pins σ H s) : Inv X pins σ H s := ⟨I.ok.unwish, I.os, I.bare, I.base, I.loc, I.cell, I.free, I.freeC, I.pin, I.hok, I.len⟩
theorem SP.unwish {D : Ends} {f : Flow} {s' : Shared} (h : SP (X.wish E) pins D f s') : SP X pins D f s' := by
 cases f with
 | next => obtain ⟨σ', H', I, q⟩ := h; exact ⟨σ', H', I.unwish, q⟩
 | brk => obtain ⟨σ', H', I, q⟩ := h; exact ⟨σ', H', I.unwish, q⟩
 | cont => obtain ⟨σ', H', I, q⟩ := h; exact ⟨σ', H', I.unwish, q⟩
 | ret u => obtain ⟨v, σ', H', I, r, q⟩ := h; exact ⟨v, σ', H', I.unwish, r, q⟩
theorem PSs.nox {st : List Stmt} {t : TS} (h : PSs X.nox st t) : PSs X st t := fun pins s σ H D I hw =>
 wpAny_mono (h pins s σ H D (I.wish _) hw) (fun _ _ q => q.unwish) fun _ _ z => False.elim z
end
section
variable {X : Cx} {st : Stmt} {rest : List Stmt} {t u : TS} {e : Expr} {te : TE} {pos : Pos}
noncomputable def tNext : TS := fun D σ H => D.nx σ H
noncomputable def tSeq (t u : TS) : TS := fun D σ H => t { D with nx := u D } σ H
theorem qb9y : PSs X [] tNext := fun _ _ σ H _ I h => wpAny_execs_nil ⟨σ, H, I, h⟩
theorem qa5t (h1 : PS X st t) (h2 : PSs X rest u) : PSs X (st :: rest) (tSeq t u) := by
 intro pins s σ H D I h
 refine wpAny_execs_cons (thn (h1 pins s σ H { D with nx := u D } I h) fun f s1 q => ?_)
 cases f with
 | next =>
  obtain ⟨σ', H', I', q⟩ := q
  exact h2 pins s1 σ' H' D I' q
 | ret v => exact q
 | brk => exact q
 | cont => exact q
theorem qa8w (h1 : PS X st t) : PSs X [st] t := by
 intro pins s σ H D I h
 refine wpAny_execs_cons (thn (h1 pins s σ H D I h) fun f s1 q => ?_)
 cases f with
 | next => exact wpAny_execs_nil q
 | ret v => exact q
 | brk => exact q
 | cont => exact q
theorem Inv.quiet {pins : List (Addr × Obj)} {σ : St} {H : Hp} {s : Shared} (I : Inv X pins σ H s) : interactive X.env = false := by simp [interactive, I.ok.kind]
noncomputable def tDrop (te : TE) : TS := fun D σ H => te σ H fun _ H1 => D.nx σ H1
theorem ps_expr (he : PE X e te) (hs : swapsWith e none pos.line X.env = pure false := by rfl) : PS X (.Expr e pos) (tDrop te) := by
 intro pins s σ H D I h
 exact wpAny_Expr_any (thn (he pins s σ H _ I h) fun v s1 ⟨x, H1, I1, r1, q1⟩ => ⟨σ, H1, I1, q1⟩) I.quiet hs
noncomputable def tRet (te : TE) : TS := fun D σ H => te σ H D.rt
theorem qa9w (he : PE X e te) : PS X (.Return (some e) pos) (tRet te) := by
 intro pins s σ H D I h
 exact wpAny_Return_some (thn (he pins s σ H _ I h) fun v s1 ⟨x, H1, I1, r1, q1⟩ => ⟨x, σ, H1, I1, r1, q1⟩)
noncomputable def tIfS (c : TT) (t u : TS) : TS := fun D σ H => c σ H fun b H1 => if b = true then t D σ H1 else u D σ H1
theorem ps_if {c : Expr} {a b : List Stmt} {tc : TT} (hc : PT X c tc) (ha : PSs X a t) (hb : PSs X b u) : PS X (.If c a b pos) (tIfS tc t u) := by
 intro pins s σ H D I h
 refine wpAny_If (thn (hc pins s σ H _ I h) fun d s1 ⟨H1, I1, q1⟩ => ?_)
 cases d with
 | true => exact ha pins s1 σ H1 D I1 q1
 | false => exact hb pins s1 σ H1 D I1 q1
end
noncomputable abbrev TG := V -> St -> Hp -> (St -> Hp -> Prop) -> Prop
noncomputable abbrev TGs := List V -> St -> Hp -> (St -> Hp -> Prop) -> Prop
noncomputable def PG (X : Cx) (target : Expr) (t : TG) : Prop :=
 ∀ (pins : List (Addr × Obj)) (s : Shared) (σ : St) (H : Hp) (v : V) (u : Value) (Q : St -> Hp -> Prop), Inv X pins σ H s -> RelV v u -> t v σ H Q ->
  wpAny (model X.prog X.w) X.A (assign target X.env u) (fun _ s' => ∃ σ' H', Inv X pins σ' H' s' /\ Q σ' H') X.xe s
noncomputable def PGs (X : Cx) (ts : List Expr) (t : TGs) : Prop :=
 ∀ (pins : List (Addr × Obj)) (s : Shared) (σ : St) (H : Hp) (vs : List V) (us : List Value) (Q : St -> Hp -> Prop), Inv X pins σ H s -> Vals vs us -> t vs σ H Q ->
  wpAny (model X.prog X.w) X.A (assignInOrder ((assignEach ts X.env).map (·.2)) us) (fun _ s' => ∃ σ' H', Inv X pins σ' H' s' /\ Q σ' H') X.xe s
noncomputable abbrev TSet := V -> V -> V -> Hp -> (Hp -> Prop) -> Prop
noncomputable def PSet (X : Cx) (t : TSet) : Prop :=
 ∀ (pins : List (Addr × Obj)) (s : Shared) (σ : St) (H : Hp) (o i v : V) (ov iv u : Value) (Q : Hp -> Prop), Inv X pins σ H s -> RelV o ov -> RelV i iv -> RelV v u -> t o i v H Q ->
  wpAny (model X.prog X.w) X.A (setItem ov iv u) (fun _ s' => ∃ H', Inv X pins σ H' s' /\ Q H') X.xe s
section
variable {X : Cx} {pos : Pos}
noncomputable def qb4x (i : Nat) : TG := fun v σ H Q => Q (σ.set i (some v)) H
theorem pg_name {i : Nat} {x : Str} (hN : X.N.Nodup) (hi : X.N[i]? = some x) (hx : Loc X.env.scope x) (hf : X.fn x = true ∨ X.env.scope.names.lookup x = some .local := by first | exact .inl rfl | exact .inr rfl | assumption) : PG X (.Name x pos) (qb4x i) := by
 intro pins s σ H v u Q I r h
 exact wpAny_assign_Name (qc8d I hN hi hx r (fun s' I' => ⟨_, H, I', h⟩) hf)
noncomputable def gNil : TGs := fun vs σ H Q => vs = [] /\ Q σ H
noncomputable def gCons (t : TG) (u : TGs) : TGs := fun vs σ H Q => ∃ v r, vs = v :: r /\ t v σ H fun σ' H' => u r σ' H' Q
theorem pgs_nil : PGs X [] gNil := by
 intro pins s σ H vs us Q I r h
 obtain ⟨e, h⟩ := h
 subst e
 cases r
 exact assignInOrder_nil ⟨σ, H, I, h⟩
theorem qe5g {e : Expr} {es : List Expr} {t : TG} {u : TGs} (h1 : PG X e t) (h2 : PGs X es u)
  (hs : (assignEach (e :: es) X.env).map (·.2) = assign e X.env :: (assignEach es X.env).map (·.2) := by rfl) : PGs X (e :: es) (gCons t u) := by
 intro pins s σ H vs us Q I r h
 obtain ⟨v, vr, e1, h⟩ := h
 subst e1
 cases r with
 | cons r rr =>
  rw [hs]
  refine assignInOrder_cons (thn (h1 pins s σ H _ _ _ I r h) fun _ s1 ⟨σ1, H1, I1, q1⟩ => ?_)
  exact h2 pins s1 σ1 H1 _ _ Q I1 rr q1
noncomputable def gTup (K : PySem.W.Frag) (n : Nat) (t : TGs) : TG := fun v σ H Q => ∃ a xs, v = .ref a /\ SqT K H a xs /\ xs.length = n /\ t xs σ H Q
theorem pg_tup {es : List Expr} {k : Nat} {t : TGs} {n : Nat} (hc : X.calm = true) (h : PGs X es t)
  (hn : (assignEach es X.env).length = n := by rfl) (hst : (assignEach es X.env).findIdx? (·.1) = none := by rfl) : PG X (.Tuple es k pos) (gTup X.K n t) := by
 intro pins s σ H v u Q I r hw
 obtain ⟨a, xs, e1, hq, hl, hw⟩ := hw
 subst e1
 cases r
 obtain ⟨its, rv, ht, hz⟩ := I.tuple hq
 refine assign_Tuple_tuple (I.ok.hd hc) ht (by simp [hn, ← hl, rv.length]) hst fun h' hx => ?_
 have I1 : Inv X pins σ H { s with heap := h' } := I.kept (t' := s.toks) fun b o e => hx b o (Nat.ne_of_lt (Heap.lt_size e)) e
 exact h pins _ σ H xs _ Q I1 (by simpa using rv) hw
noncomputable def gSub (to ti : TE) (t : TSet) : TG := fun v σ H Q => to σ H fun o H1 => ti σ H1 fun i H2 => t o i v H2 fun H3 => Q σ H3
theorem pg_sub {o i : Expr} {to ti : TE} {t : TSet} (ho : PE X o to) (hi : PE X i ti) (hs : PSet X t)
  (ha : ∀ v, assign (.Subscript o i pos) X.env v = (do
   let ov ← holding [v] (eval o X.env)
   let iv ← holding [v, ov] (eval i X.env)
   standAt pos
   holding [v, ov, iv] (setItem ov iv v)
   release [v, ov, iv] []) := by intro _; rfl) : PG X (.Subscript o i pos) (gSub to ti t) := by
 intro pins s σ H v u Q I r h
 rw [ha]
 refine wpAny_bind (wpAny_holding (thn (ho pins s σ H _ I h) fun ov s1 ⟨x, H1, I1, r1, q1⟩ => ?_))
 refine wpAny_bind (wpAny_holding (thn (hi pins s1 σ H1 _ I1 q1) fun iv s2 ⟨y, H2, I2, r2, q2⟩ => ?_))
 refine wpAny_bind (wpAny_standAt (wpAny_bind (wpAny_holding (thn (hs pins s2 σ H2 x y v ov iv u _ I2 r1 r2 r q2) fun _ s3 ⟨H3, I3, q3⟩ => ?_))))
 exact wpAny_release ⟨σ, H3, I3, q3⟩
noncomputable def tAsg (te : TE) (g : TG) : TS := fun D σ H => te σ H fun x H1 => g x σ H1 D.nx
theorem ps_asg {tg e : Expr} {te : TE} {g : TG} (he : PE X e te) (hg : PG X tg g) (hs : swapsWithSole [tg] e pos.line X.env = pure false := by rfl) (hw : swappedStores [tg] e X.env = pure none := by rfl)
  (h1 : (assignEach [tg] X.env).map (·.2) = [assign tg X.env] := by rfl) : PS X (.Assign [tg] e pos) (tAsg te g) := by
 intro pins s σ H D I h
 refine wpAny_Assign_stores (thn (he pins s σ H _ I h) fun v s1 ⟨x, H1, I1, r1, q1⟩ => ?_) hs hw
 rw [h1]
 exact thn (hg pins s1 σ H1 x v _ I1 r1 q1) fun _ s2 q => q
theorem qb1m {i : Nat} {x : Str} {e : Expr} {te : TE} {pos' : Pos} (hN : X.N.Nodup) (hi : X.N[i]? = some x) (hx : Loc X.env.scope x) (he : PE X e te) (hs : swapsWith e (some (.Name x pos')) pos.line X.env = pure false := by rfl) (hf : X.fn x = true ∨ X.env.scope.names.lookup x = some .local := by first | exact .inl rfl | exact .inr rfl | assumption) :
  PS X (.Assign [.Name x pos'] e pos) (tAsg te (qb4x i)) := by
 intro pins s σ H D I h
 refine wpAny_Assign_Name (thn (he pins s σ H _ I h) fun v s1 ⟨y, H1, I1, r1, q1⟩ => ?_) hs
 exact qc8d I1 hN hi hx r1 (fun s2 I2 => ⟨_, H1, I2, q1⟩) hf
end
section
variable {X : Cx} {pos : Pos}
noncomputable def tWhile (c : TT) (tb : TS) : TS := fun D σ H => ∃ W : Nat -> St -> Hp -> Prop, (∃ m, W m σ H) /\ ∀ m σ H, W m σ H ->
 c σ H fun b H1 => if b = true then ∃ N : St -> Hp -> Prop, (∀ σ' H', N σ' H' -> ∃ m', m' < m /\ W m' σ' H') /\ tb { D with nx := N, ct := N, bk := D.nx } σ H1 else D.nx σ H1
theorem qe5h {c : Expr} {body : List Stmt} {tc : TT} {tb : TS} (hp : PassesOwn (model X.prog X.w) X.A X.env X.xe) (hc : PT X c tc) (hb : PSs X body tb) : PS X (.While c body [] pos) (tWhile tc tb) := by
 intro pins s σ H D I h
 obtain ⟨W, ⟨m0, w0⟩, turn⟩ := h
 refine wpAny_While (codeAny_whileLoop (fun n s' => ∃ σ' H', Inv X pins σ' H' s' /\ W n σ' H') ?_ m0 ⟨σ, H, I, w0⟩)
 rintro n s1 ⟨σ1, H1, I1, w1⟩
 refine wpAny_passesOwn hp (thn (hc pins s1 σ1 H1 _ I1 (turn n σ1 H1 w1)) fun b s2 ⟨H2, I2, q2⟩ => ?_)
 cases b with
 | true =>
  obtain ⟨N, hN, q2⟩ := q2
  rw [if_pos rfl]
  refine wpAny_passesOwn hp (thn (hb pins s2 σ1 H2 _ I2 q2) fun f s3 q3 => ?_)
  cases f with
  | next =>
   obtain ⟨σ3, H3, I3, n3⟩ := q3
   obtain ⟨m', hm, w3⟩ := hN σ3 H3 n3
   exact ⟨m', hm, σ3, H3, I3, w3⟩
  | cont =>
   obtain ⟨σ3, H3, I3, n3⟩ := q3
   obtain ⟨m', hm, w3⟩ := hN σ3 H3 n3
   exact ⟨m', hm, σ3, H3, I3, w3⟩
  | brk => exact q3
  | ret v => exact q3
 | false =>
  rw [if_neg Bool.false_ne_true]
  exact wpAny_execs_nil ⟨σ1, H2, I2, q2⟩
end
structure It where
 go : Nat -> Hp -> Prop
 yld : Nat -> Hp -> V -> Hp -> Prop
 stop : Nat -> Hp -> Prop
noncomputable def FpOk (X : Cx) (pins : List (Addr × Obj)) (H : Hp) (b : Addr) : Prop :=
 H b = none /\ b ≠ X.env.locals /\ b ∉ X.fs /\ (b ∈ X.ex ∨ X.s₀.heap.objs.size <= b) /\ (∀ x c, X.env.cells.lookup x = some c -> c ≠ b) /\ ∀ p ∈ X.pn ++ pins, p.1 ≠ b
theorem Inv.fpOk {X : Cx} {pins : List (Addr × Obj)} {σ : St} {H H' : Hp} {s : Shared} {b : Addr} (I : Inv X pins σ H s) (hb : s.heap.objs.size <= b) (hn : H' b = none) : FpOk X pins H' b := by
 refine ⟨hn, Nat.ne_of_gt (Nat.lt_of_lt_of_le I.lt hb), I.nofs hb, .inr (Nat.le_trans I.sz hb), fun x c e z => ?_, fun p hp z => ?_⟩
 ·obtain ⟨v, q⟩ := I.cell x c e
  exact absurd (Nat.lt_of_lt_of_le q.lt (by rw [z]; exact hb)) (Nat.lt_irrefl _)
 ·exact absurd (Nat.lt_of_lt_of_le (Heap.lt_size (I.pin p hp).1) (by rw [z]; exact hb)) (Nat.lt_irrefl _)
structure Turn (P : Program) (w : World) (K : PySem.W.Frag) (tg : Expr) (J : It) (fp : List Addr) (it : Addr) (tn : Nat -> Heap -> Prop) : Prop where
 mem : it ∈ fp
 obj : ∀ i h, tn i h -> ∀ b ∈ fp, ∃ o, h.get? b = some o /\ ∀ v, o.data ≠ .cell v
 keep : ∀ i h h', tn i h -> (∀ b ∈ fp, ∀ o, h.get? b = some o -> h'.get? b = some o) -> tn i h'
 item : ∀ (X : Cx), X.prog = P -> X.w = w -> X.K = K -> X.calm = true -> ∀ (i : Nat) (pins : List (Addr × Obj)) (s : Shared) (σ : St) (H : Hp) (E : Value -> Shared -> Prop), Inv X pins σ H s -> (∀ b ∈ fp, FpOk X pins H b) -> tn i s.heap -> J.go i H ->
  wpAny (model P w) X.A (pyNext (.ref it)) (fun r s1 => ∃ u, r = some u /\
   wpAny (model P w) X.A (letOwnedTupleGo tg (.ref it) u) (fun _ s2 => ∃ x H', Inv X pins σ H' s2 /\ RelV x u /\ J.yld i H x H' /\ tn (i + 1) s2.heap /\ ∀ b ∈ fp, H' b = none) E s1) E s
 done : ∀ (X : Cx), X.prog = P -> X.w = w -> X.K = K -> X.calm = true -> ∀ (i : Nat) (pins : List (Addr × Obj)) (s : Shared) (σ : St) (H : Hp) (E : Value -> Shared -> Prop), Inv X pins σ H s -> (∀ b ∈ fp, FpOk X pins H b) -> tn i s.heap -> J.stop i H ->
  wpAny (model P w) X.A (pyNext (.ref it)) (fun r s1 => r = none /\ Inv X pins σ H s1) E s
 self : ∀ (A : Around) (i : Nat) (s : Shared) (Q : Value -> Shared -> Prop) (E : Value -> Shared -> Prop), tn i s.heap -> Q (.ref it) s -> wpAny (model P w) A (pyIter (.ref it)) Q E s
noncomputable abbrev TI := St -> Hp -> (It -> Hp -> Prop) -> Prop
noncomputable def PIE (X : Cx) (pins : List (Addr × Obj)) (σ : St) (tg : Expr) (R : It -> Hp -> Prop) (itv : Value) (s2 : Shared) : Prop :=
 ∃ (it : Addr) (fp : List Addr) (tn : Nat -> Heap -> Prop) (J : It) (H' : Hp), itv = .ref it /\ Inv X pins σ H' s2 /\ Turn X.prog X.w X.K tg J fp it tn /\ tn 0 s2.heap /\ (∀ b ∈ fp, FpOk X pins H' b) /\ R J H'
noncomputable def PI (X : Cx) (tg iter : Expr) (wi : TI) : Prop :=
 ∀ (pins : List (Addr × Obj)) (s : Shared) (σ : St) (H : Hp) (R : It -> Hp -> Prop), Inv X pins σ H s -> wi σ H R ->
  wpAny (model X.prog X.w) X.A (eval iter X.env) (fun v s1 => wpAny (model X.prog X.w) X.A (pyIter v) (PIE X pins σ tg R) X.xe s1) X.xe s
theorem go_of {M : Model} {A : Around} {E : Value -> Shared -> Prop} {s : Shared} {tg : Expr} {it : Addr} {u : Value} {o : Obj} {n : String} {vs : Array Value} {Q : Unit -> Shared -> Prop} (ho : s.heap.get? it = some o) (hc : o.cls = .type n) (hd : o.data = .fields vs)
  (hn : ["enumerate", "zip", "dict_itemiterator", "dict_reverseitemiterator", "odict_iterator", "itertools.zip_longest", "itertools.pairwise"].contains n = false) (hQ : Q () s) : wpAny M A (letOwnedTupleGo tg (.ref it) u) Q E s := by
 unfold letOwnedTupleGo
 cases tg <;> first
  | exact wpAny_pure hQ
  | (cases u <;> first
    | exact wpAny_pure hQ
    | (
      refine wpAny_bind (wpAny_load ho ?_)
      rw [hc, hd]
      show wpAny M A (if (["enumerate", "zip", "dict_itemiterator", "dict_reverseitemiterator", "odict_iterator", "itertools.zip_longest", "itertools.pairwise"].contains n && vs[0]? == some (rawInt _)) = true then _ else _) Q E s
      rw [if_neg (by intro h; rw [hn, Bool.false_and] at h; cases h)]
      exact wpAny_pure hQ))
noncomputable def Itl (K : PySem.W.Frag) (a : Addr) : It :=
 ⟨fun i H => ∃ xs x, SqL K H a xs /\ xs[i]? = some x, fun i H x H' => H' = H /\ ∀ xs, SqL K H a xs -> xs[i]? = some x, fun i H => ∃ xs, SqL K H a xs /\ xs.length <= i⟩
noncomputable def Itt (K : PySem.W.Frag) (a : Addr) : It :=
 ⟨fun i H => ∃ xs x, SqT K H a xs /\ xs[i]? = some x, fun i H x H' => H' = H /\ ∀ xs, SqT K H a xs -> xs[i]? = some x, fun i H => ∃ xs, SqT K H a xs /\ xs.length <= i⟩
noncomputable def Itr (lo : Int) (n : Nat) : It := ⟨fun i _ => i < n, fun i H x H' => H' = H /\ x = .int (lo + i), fun i _ => n <= i⟩
theorem qe3e {P : Program} {w : World} {K : PySem.W.Frag} {tg : Expr} (a it : Addr) : Turn P w K tg (Itl K a) [it] it (fun i h => h.IsListIter it a i) where
 mem := by simp
 obj := fun i h st b hb => by
  have e : b = it := by simpa using hb
  subst e
  obtain ⟨o, e, c, d⟩ := st
  exact ⟨o, e, fun v z => by rw [d] at z; cases z⟩
 keep := fun i h h' st k => st.at fun o e => k it (by simp) o e
 item := by
  intro X hP hw hK hc i pins s σ H E I hf st hg
  subst hP hw hK
  obtain ⟨xs, x, hq, hx⟩ := hg
  obtain ⟨its, rv, p, hz⟩ := I.list hq
  obtain ⟨u, hu, ru⟩ := rv.get hx
  obtain ⟨f0, f1, f2, f3, f4, f5⟩ := hf it (by simp)
  refine wpAny_pyNext_list_item st p.isList (x := u) (by simpa using hu) fun h' st' sb => ?_
  have I1 : Inv X pins σ H { s with heap := h' } := I.turned (t' := s.toks) (fun b o hb e => (sb.2 b hb).trans e) f0 f1 f3 f4 f5
  obtain ⟨o, e, c, d⟩ := id st'
  exact ⟨u, rfl, go_of (s := { s with heap := h' }) e c d (by decide) ⟨x, H, I1, ru, ⟨rfl, fun ys hy => by rw [I.list_inj hy hq]; exact hx⟩, st', fun b hb => (hf b hb).1⟩⟩
 done := by
  intro X hP hw hK hc i pins s σ H E I hf st hg
  subst hP hw hK
  obtain ⟨xs, hq, hx⟩ := hg
  obtain ⟨its, rv, p, hz⟩ := I.list hq
  obtain ⟨f0, f1, f2, f3, f4, f5⟩ := hf it (by simp)
  have hl := rv.length
  exact wpAny_pyNext_list_end (I.ok.hd hc) st p.isList (by simp; omega) fun h' eb => ⟨rfl, I.turned (t' := s.toks) (fun b o hb e => eb b o hb e) f0 f1 f3 f4 f5⟩
 self := fun _ _ _ _ _ st h => wpAny_pyIter_listiter st h
theorem qe0n {P : Program} {w : World} {K : PySem.W.Frag} {tg : Expr} (a it : Addr) : Turn P w K tg (Itt K a) [it] it (fun i h => h.IsTupleIter it a i) where
 mem := by simp
 obj := fun i h st b hb => by
  have e : b = it := by simpa using hb
  subst e
  obtain ⟨o, e, c, d⟩ := st
  exact ⟨o, e, fun v z => by rw [d] at z; cases z⟩
 keep := fun i h h' st k => st.at fun o e => k it (by simp) o e
 item := by
  intro X hP hw hK hc i pins s σ H E I hf st hg
  subst hP hw hK
  obtain ⟨xs, x, hq, hx⟩ := hg
  obtain ⟨its, rv, p, hz⟩ := I.tuple hq
  obtain ⟨u, hu, ru⟩ := rv.get hx
  obtain ⟨f0, f1, f2, f3, f4, f5⟩ := hf it (by simp)
  refine wpAny_pyNext_tuple_item st (show s.heap.IsTuple a its.toArray from p) (x := u) (by simpa using hu) fun h' st' sb => ?_
  have I1 : Inv X pins σ H { s with heap := h' } := I.turned (t' := s.toks) (fun b o hb e => (sb.2 b hb).trans e) f0 f1 f3 f4 f5
  obtain ⟨o, e, c, d⟩ := id st'
  exact ⟨u, rfl, go_of (s := { s with heap := h' }) e c d (by decide) ⟨x, H, I1, ru, ⟨rfl, fun ys hy => by rw [I.tuple_inj hy hq]; exact hx⟩, st', fun b hb => (hf b hb).1⟩⟩
 done := by
  intro X hP hw hK hc i pins s σ H E I hf st hg
  subst hP hw hK
  obtain ⟨xs, hq, hx⟩ := hg
  obtain ⟨its, rv, p, hz⟩ := I.tuple hq
  obtain ⟨f0, f1, f2, f3, f4, f5⟩ := hf it (by simp)
  have hl := rv.length
  exact wpAny_pyNext_tuple_end (I.ok.hd hc) st (show s.heap.IsTuple a its.toArray from p) (by simp; omega) fun h' eb => ⟨rfl, I.turned (t' := s.toks) (fun b o hb e => eb b o hb e) f0 f1 f3 f4 f5⟩
 self := fun _ _ _ _ _ st h => wpAny_pyIter_tupleiter st h
theorem qe0o {P : Program} {w : World} {K : PySem.W.Frag} {tg : Expr} (it : Addr) (lo : Int) (n : Nat) : Turn P w K tg (Itr lo n) [it] it (fun i h => IsRangeIter h it (lo + (i : Nat) * 1) ((n : Int) - (i : Nat)) 1) where
 mem := by simp
 obj := fun i h st b hb => by
  have e : b = it := by simpa using hb
  subst e
  exact ⟨_, st, fun v z => by
   have z' : Data.fields _ = Data.cell v := z
   cases z'⟩
 keep := fun i h h' st k => k it (by simp) _ st
 item := by
  intro X hP hw hK hc i pins s σ H E I hf st hg
  subst hP hw hK
  obtain ⟨f0, f1, f2, f3, f4, f5⟩ := hf it (by simp)
  have W := Walks.range (prog := X.prog) (w := X.w) (I.ok.hd hc) it lo 1 n
  refine W.item i s _ _ hg st fun v h' tk hv st' kk => ?_
  obtain ⟨t, rfl⟩ := hv
  have I1 : Inv X pins σ H { s with heap := h', toks := tk } := I.turned (fun b o hb e => kk b o (by simpa using hb) e) f0 f1 f3 f4 f5
  refine ⟨_, rfl, go_of (s := { s with heap := h', toks := tk }) (n := "range_iterator") st' rfl rfl (by decide) ⟨.int (lo + i), H, I1, ⟨t, ?_⟩, ⟨rfl, rfl⟩, st', fun b hb => (hf b hb).1⟩⟩
  rw [Int.mul_one]
 done := by
  intro X hP hw hK hc i pins s σ H E I hf st hg
  subst hP hw hK
  obtain ⟨f0, f1, f2, f3, f4, f5⟩ := hf it (by simp)
  exact wpAny_pyNext_range_end (I.ok.hd hc) st (by have : n <= i := hg; omega) fun h' eb => ⟨rfl, I.turned (t' := s.toks) (fun b o hb e => eb b o hb e) f0 f1 f3 f4 f5⟩
 self := fun _ _ _ _ _ st h => wpAny_pyIter_rangeiter st h
end L2
namespace L2
open PySem PySem.Spec PyProof.Rows
section
variable {X : Cx} {tg : Expr}
theorem qe5i {pins : List (Addr × Obj)} {σ : St} {H : Hp} {s : Shared} {R : It -> Hp -> Prop} {E : Value -> Shared -> Prop} {lo hi : Int} {t u v : Tok} {tk : Nat} (I : Inv X pins σ H s) (h1 : -(2 ^ 62) <= lo) (h2 : lo < 2 ^ 62) (h3 : -(2 ^ 62) <= hi) (h4 : hi < 2 ^ 62)
  (q : R (Itr lo (hi - lo).toNat) H) : wpAny (model X.prog X.w) X.A (pyIter (.ref s.heap.objs.size)) (PIE X pins σ tg R) E { s with heap := s.heap.push { cls := .type "range", data := .fields #[.int lo t, .int hi u, .int 1 v] }, toks := tk } := by
 refine wpAny_pyIter_range (IsRange.new ..) (small_one h1 h2 h3 h4) ?_
 have I1 : Inv X pins σ H { s with heap := s.heap.push { cls := .type "range", data := .fields #[.int lo t, .int hi u, .int 1 v] }, toks := tk } := I.kept fun b o e => Heap.get?_push_of_some _ e
 refine ⟨(s.heap.push { cls := .type "range", data := .fields #[.int lo t, .int hi u, .int 1 v] }).objs.size, [(s.heap.push { cls := .type "range", data := .fields #[.int lo t, .int hi u, .int 1 v] }).objs.size], _, _, H, rfl,
  I1.kept (t' := tk) fun b o e => Heap.get?_push_of_some _ e, qe0o _ lo (hi - lo).toNat, ?_, fun b hb => ?_, q⟩
 ·have e1 : lo + ((0 : Nat) : Int) * 1 = lo := by simp
  have e2 : (((hi - lo).toNat : Nat) : Int) - ((0 : Nat) : Int) = Builtin.Range.rangeSize lo hi 1 := by rw [rangeSize_one]; split <;> omega
  show IsRangeIter _ _ (lo + ((0 : Nat) : Int) * 1) ((((hi - lo).toNat : Nat) : Int) - ((0 : Nat) : Int)) 1
  rw [e1, e2]
  exact Heap.get?_push_size _ rfl
 ·have e : b = (s.heap.push { cls := .type "range", data := .fields #[.int lo t, .int hi u, .int 1 v] }).objs.size := by simpa using hb
  subst e
  exact I1.fpOk (Nat.le_refl _) (I1.hok.fresh (Nat.le_refl _))
noncomputable def iRng1 (ta : TA) : TI := fun σ H R => ta σ H fun vs H1 => ∃ j : Int, vs = [.int j] /\ -(2 ^ 62) <= j /\ j < 2 ^ 62 /\ R (Itr 0 j.toNat) H1
theorem qe3f {a : Expr} {ta : TA} {p pos : Pos} (hg : Gl X "range") (hm : X.mg "range" = none) (ha : PA X [a] ta) (hs : starEach [a] X.env = [(false, eval a X.env)] := by rfl) : PI X tg (.Call (.Name "range" p) [a] [] pos) (iRng1 ta) := by
 intro pins s σ H R I h
 refine Call_ (qb1l I hg hm boot_range (PyProof.Rows.callWith_type1 (thn (ha pos pins s σ H _ I h) fun us s1 ⟨vs, H1, I1, r1, q1⟩ => ?_) hs rfl))
 obtain ⟨j, e, q1, q2, q⟩ := q1
 subst e
 cases r1 with
 | cons r rr =>
  cases rr
  obtain ⟨t, rfl⟩ := r
  exact call_range_1 (qe5i I1 (by omega) (by omega) q1 q2 (by simpa using q))
noncomputable def tFor (wi : TI) (g : TG) (tb : TS) : TS := fun D σ H => wi σ H fun J H1 => ∃ W : Nat -> Nat -> St -> Hp -> Prop, (∃ m, W 0 m σ H1) /\ ∀ i m σ H, W i m σ H ->
 (J.stop i H /\ D.nx σ H) ∨ (J.go i H /\ ∃ N : St -> Hp -> Prop, (∀ σ' H', N σ' H' -> ∃ m', m' < m /\ W (i + 1) m' σ' H') /\ ∀ x H', J.yld i H x H' -> g x σ H' fun σ2 H2 => tb { D with nx := N, ct := N, bk := D.nx } σ2 H2)
noncomputable def qb8b (fp : List Addr) (h : Heap) : List (Addr × Obj) := fp.filterMap fun b => (h.get? b).map fun o => (b, o)
theorem qb0x {fp : List Addr} {h : Heap} {b : Addr} {o : Obj} (hb : b ∈ fp) (e : h.get? b = some o) : (b, o) ∈ qb8b fp h := List.mem_filterMap.mpr ⟨b, hb, by rw [e]; rfl⟩
theorem qe3g {fp : List Addr} {h : Heap} {p : Addr × Obj} (hp : p ∈ qb8b fp h) : p.1 ∈ fp /\ h.get? p.1 = some p.2 := by
 obtain ⟨b, hb, e⟩ := List.mem_filterMap.mp hp
 cases q : h.get? b with
 | none => rw [q] at e; cases e
 | some o =>
  rw [q] at e
  have e' : (b, o) = p := Option.some.inj e
  subst e'
  exact ⟨hb, q⟩
theorem Inv.pinned {pins : List (Addr × Obj)} {σ : St} {H : Hp} {s : Shared} {fp : List Addr} (I : Inv X pins σ H s) (hf : ∀ b ∈ fp, FpOk X pins H b) (ho : ∀ b ∈ fp, ∃ o, s.heap.get? b = some o /\ ∀ v, o.data ≠ .cell v) : Inv X (pins ++ qb8b fp s.heap) σ H s :=
 I.pins_of fun p hp => (List.mem_append.mp hp).elim (fun z => I.pin p (List.mem_append_right _ z)) fun z => by
  obtain ⟨hb, e⟩ := qe3g z
  obtain ⟨f0, f1, f2, _⟩ := hf p.1 hb
  obtain ⟨o, e', d⟩ := ho p.1 hb
  rw [e] at e'; cases e'
  exact ⟨e, f0, f1, f2, d⟩
theorem Inv.unpinned {pins pl : List (Addr × Obj)} {σ : St} {H : Hp} {s : Shared} (I : Inv X (pins ++ pl) σ H s) : Inv X pins σ H s := I.pins_of fun p hp => I.pin p (List.mem_append_right _ (List.mem_append_left _ hp))
theorem ps_for {iter : Expr} {body : List Stmt} {wi : TI} {g : TG} {tb : TS} {pos : Pos} (hp : PassesOwn (model X.prog X.w) X.A X.env X.xe) (hc : X.calm = true) (hi : PI X tg iter wi) (hg : PG X tg g) (hb : PSs X body tb)
  (hs : ∀ x, foldedSetIterable iter X.env x = pure x := by intro _; rfl) : PS X (.For tg iter body [] pos) (tFor wi g tb) := by
 intro pins s σ H D I h
 refine wpAny_For (thn (hi pins s σ H _ I h) fun v s1 h1 => thn h1 fun itv s2 h2 => ?_) hs
 obtain ⟨it, fp, tn, J, H2, e, I2, T, st2, f2, W, ⟨m0, w0⟩, turn⟩ := h2
 subst e
 -- what stays true of the iterator's objects through the loop
 have stat : ∀ {H' : Hp}, (∀ b ∈ fp, H' b = none) -> ∀ b ∈ fp, FpOk X pins H' b := fun hn b hb => ⟨hn b hb, (f2 b hb).2⟩
 refine codeAny_forLoop_any (fun n s' => ∃ i σ' H', Inv X pins σ' H' s' /\ tn i s'.heap /\ (∀ b ∈ fp, H' b = none) /\ W i n σ' H') ?_ m0 ⟨0, σ, H2, I2, st2, fun b hb => (f2 b hb).1, w0⟩
 rintro n s3 ⟨i, σ3, H3, I3, st3, fr3, w3⟩
 rcases turn i n σ3 H3 w3 with ⟨stop, qn⟩ | ⟨go, N, hN, step⟩
 ·refine wpAny_passesOwn hp (thn (T.done X rfl rfl rfl hc i pins s3 σ3 H3 X.xe I3 (stat fr3) st3 stop) fun r s4 ⟨hr, I4⟩ => ?_)
  subst hr
  exact wpAny_execs_nil ⟨σ3, H3, I4, qn⟩
 ·refine wpAny_passesOwn hp (thn (T.item X rfl rfl rfl hc i pins s3 σ3 H3 X.xe I3 (stat fr3) st3 go) fun r s4 ⟨u, hr, h4⟩ => ?_)
  subst hr
  refine wpAny_passesOwn hp (thn h4 fun _ s5 ⟨x, H5, I5, r5, y5, st5, fr5⟩ => ?_)
  have I5' := I5.pinned (stat fr5) (T.obj _ _ st5)
  refine wpAny_passesOwn hp (thn (hg _ s5 σ3 H5 x u _ I5' r5 (step x H5 y5)) fun _ s6 ⟨σ6, H6, I6, q6⟩ => ?_)
  refine wpAny_passesOwn hp (thn (hb _ s6 σ6 H6 _ I6 q6) fun f s7 q7 => ?_)
  have again : ∀ {σ7 : St} {H7 : Hp}, Inv X (pins ++ qb8b fp s5.heap) σ7 H7 s7 -> N σ7 H7 -> ∃ m, m < n /\ ∃ i σ' H', Inv X pins σ' H' s7 /\ tn i s7.heap /\ (∀ b ∈ fp, H' b = none) /\ W i m σ' H' := fun {σ7 H7} I7 n7 => by
   obtain ⟨m', hm, w7⟩ := hN σ7 H7 n7
   refine ⟨m', hm, i + 1, σ7, H7, I7.unpinned, T.keep _ _ _ st5 fun b hb o e => (I7.pin (b, o) (List.mem_append_right _ (List.mem_append_right _ (qb0x hb e)))).1, fun b hb => ?_, w7⟩
   obtain ⟨o, e, d⟩ := T.obj _ _ st5 b hb
   exact (I7.pin (b, o) (List.mem_append_right _ (List.mem_append_right _ (qb0x hb e)))).2.1
  cases f with
  | next => obtain ⟨σ7, H7, I7, n7⟩ := q7; exact again I7 n7
  | cont => obtain ⟨σ7, H7, I7, n7⟩ := q7; exact again I7 n7
  | brk => obtain ⟨σ7, H7, I7, q7⟩ := q7; exact ⟨σ7, H7, I7.unpinned, q7⟩
  | ret v => obtain ⟨x7, σ7, H7, I7, r7, q7⟩ := q7; exact ⟨x7, σ7, H7, I7.unpinned, r7, q7⟩
end
end L2
namespace L2
open PySem PySem.Spec PyProof.Rows
noncomputable abbrev R2 := V -> V -> Hp -> VK -> Prop
noncomputable def OpR (X : Cx) (f : Value -> Value -> Sem Value) (r : R2) : Prop :=
 ∀ (pins : List (Addr × Obj)) (s : Shared) (σ : St) (H : Hp) (x y : V) (v u : Value) (Q : VK), Inv X pins σ H s -> RelV x v -> RelV y u -> r x y H Q ->
  wpAny (model X.prog X.w) X.A (f v u) (EP X pins σ Q) X.xe s
noncomputable def UnR (X : Cx) (f : Value -> Sem Value) (r : V -> Hp -> VK -> Prop) : Prop :=
 ∀ (pins : List (Addr × Obj)) (s : Shared) (σ : St) (H : Hp) (x : V) (v : Value) (Q : VK), Inv X pins σ H s -> RelV x v -> r x H Q ->
  wpAny (model X.prog X.w) X.A (f v) (EP X pins σ Q) X.xe s
noncomputable def qa3z (X : Cx) (f : Value) (r : List V -> Hp -> VK -> Prop) : Prop :=
 ∀ (pins : List (Addr × Obj)) (s : Shared) (σ : St) (H : Hp) (xs : List V) (us : List Value) (Q : VK), Inv X pins σ H s -> Vals xs us -> r xs H Q ->
  wpAny (model X.prog X.w) X.A (call f us) (EP X pins σ Q) X.xe s
noncomputable def TruR (X : Cx) (r : V -> Hp -> (Bool -> Hp -> Prop) -> Prop) : Prop :=
 ∀ (pins : List (Addr × Obj)) (s : Shared) (σ : St) (H : Hp) (x : V) (v : Value) (Q : Bool -> Hp -> Prop), Inv X pins σ H s -> RelV x v -> r x H Q ->
  wpAny (model X.prog X.w) X.A (truthy v) (TP X pins σ Q) X.xe s
noncomputable def tOp (r : R2) (ta tb : TE) : TE := fun σ H Q => ta σ H fun x H1 => tb σ H1 fun y H2 => r x y H2 Q
noncomputable def tUn (r : V -> Hp -> VK -> Prop) (ta : TE) : TE := fun σ H Q => ta σ H fun x H1 => r x H1 Q
noncomputable def rI (C : Int -> Int -> Prop) (g : Int -> Int -> V) : R2 := fun x y H Q => ∃ i j, x = .int i /\ y = .int j /\ C i j /\ Q (g i j) H
noncomputable def rI0 (g : Int -> Int -> V) : R2 := fun x y H Q => ∃ i j, x = .int i /\ y = .int j /\ Q (g i j) H
noncomputable def rU (g : Int -> V) : V -> Hp -> VK -> Prop := fun x H Q => ∃ i, x = .int i /\ Q (g i) H
section
variable {X : Cx} {a b c : Expr} {ta tb tc : TE} {pos : Pos}
theorem binT (ha : PE X a ta) (hb : PE X b tb) {pins : List (Addr × Obj)} {s : Shared} {σ : St} {H : Hp} {R : V -> V -> Hp -> Prop} (I : Inv X pins σ H s)
  (h : ta σ H fun x H1 => tb σ H1 fun y H2 => R x y H2) {Q : Value -> Shared -> Prop} {f : Value -> Value -> Sem Value}
  (hf : ∀ v u s2 x y H2, Inv X pins σ H2 s2 -> RelV x v -> RelV y u -> R x y H2 -> wpAny (model X.prog X.w) X.A (f v u) Q X.xe s2) :
  wpAny (model X.prog X.w) X.A (eval a X.env) (fun v s₁ => wpAny (model X.prog X.w) X.A (eval b X.env) (fun u s₂ => wpAny (model X.prog X.w) X.A (f v u) Q X.xe s₂) X.xe s₁) X.xe s := by
 refine thn (ha pins s σ H _ I h) fun v s1 ⟨x, H1, I1, r1, q1⟩ => ?_
 refine thn (hb pins s1 σ H1 _ I1 q1) fun u s2 ⟨y, H2, I2, r2, q2⟩ => ?_
 exact hf v u s2 x y H2 I2 r1 r2 q2
theorem qa4a {op : Operator} {r : R2} (ho : OpR X (binaryOp op) r) (ha : PE X a ta) (hb : PE X b tb) : PE X (.BinOp a op b pos) (tOp r ta tb) := by
 intro pins s σ H Q I h
 exact wpAny_BinOp (binT ha hb I h fun v u s2 x y H2 I2 rx ry q => ho pins s2 σ H2 x y v u Q I2 rx ry q)
theorem pe_un {op : UnaryOp} {r : V -> Hp -> VK -> Prop} (ho : UnR X (unaryOp op) r) (ha : PE X a ta) : PE X (.UnaryOp op a pos) (tUn r ta) := by
 intro pins s σ H Q I h
 exact UnaryOp_ (thn (ha pins s σ H _ I h) fun v s1 ⟨x, H1, I1, r1, q1⟩ => ho pins s1 σ H1 x v Q I1 r1 q1)
theorem opI {f : Value -> Value -> Sem Value} {C : Int -> Int -> Prop} {g : Int -> Int -> Int}
  (rule : ∀ (i j : Int) (t u : Tok) (s : Shared) (Q : Value -> Shared -> Prop) (E : Value -> Shared -> Prop), C i j -> Q (.int (g i j) s.toks) { s with toks := s.toks + 1 } -> wpAny (model X.prog X.w) X.A (f (.int i t) (.int j u)) Q E s) :
  OpR X f (rI C fun i j => .int (g i j)) := by
 intro pins s σ H x y v u Q I rx ry h
 obtain ⟨i, j, rfl, rfl, hc, q⟩ := h
 obtain ⟨t, rfl⟩ := rx
 obtain ⟨t', rfl⟩ := ry
 exact rule i j t t' s _ _ hc ⟨.int (g i j), H, I.tok _, ⟨_, rfl⟩, q⟩
theorem opI0 {f : Value -> Value -> Sem Value} {g : Int -> Int -> Int}
  (rule : ∀ (i j : Int) (t u : Tok) (s : Shared) (Q : Value -> Shared -> Prop) (E : Value -> Shared -> Prop), Q (.int (g i j) s.toks) { s with toks := s.toks + 1 } -> wpAny (model X.prog X.w) X.A (f (.int i t) (.int j u)) Q E s) :
  OpR X f (rI0 fun i j => .int (g i j)) := by
 intro pins s σ H x y v u Q I rx ry h
 obtain ⟨i, j, rfl, rfl, q⟩ := h
 obtain ⟨t, rfl⟩ := rx
 obtain ⟨t', rfl⟩ := ry
 exact rule i j t t' s _ _ ⟨.int (g i j), H, I.tok _, ⟨_, rfl⟩, q⟩
theorem opB0 {f : Value -> Value -> Sem Value} {g : Int -> Int -> Bool}
  (rule : ∀ (i j : Int) (t u : Tok) (s : Shared) (Q : Value -> Shared -> Prop) (E : Value -> Shared -> Prop), Q (.bool (g i j)) s -> wpAny (model X.prog X.w) X.A (f (.int i t) (.int j u)) Q E s) :
  OpR X f (rI0 fun i j => .bl (g i j)) := by
 intro pins s σ H x y v u Q I rx ry h
 obtain ⟨i, j, rfl, rfl, q⟩ := h
 obtain ⟨t, rfl⟩ := rx
 obtain ⟨t', rfl⟩ := ry
 exact rule i j t t' s _ _ ⟨.bl (g i j), H, I, rfl, q⟩
noncomputable def CDiv (i j : Int) : Prop := 0 < j /\ j < 1073741824
noncomputable def CPow (i j : Int) : Prop := 0 <= j /\ j <= 1000000 /\ i.natAbs < 2 ^ 64
noncomputable def CMul (i j : Int) : Prop := (-(2 ^ 64) < i /\ i < 2 ^ 64) ∨ (-(2 ^ 64) < j /\ j < 2 ^ 64)
theorem CMul.ok {i j : Int} (h : CMul i j) : IntMulOk i j := by
 rcases h with ⟨h1, h2⟩ | ⟨h1, h2⟩
 ·exact .of_left (intBits_le_64 h1 h2)
 ·exact .of_right (intBits_le_64 h1 h2)
theorem qe0p (k : Nat) : (0 : Int) <= 2 ^ k := by
 rw [two_pow_cast]
 exact Int.natCast_nonneg _
theorem qc2n : OpR X (binaryOp .Add) (rI0 fun i j => .int (i + j)) := opI0 fun _ _ _ _ _ _ _ q => add_int q
theorem qa3o : OpR X (binaryOp .Sub) (rI0 fun i j => .int (i - j)) := opI0 fun _ _ _ _ _ _ _ q => sub_int q
theorem qb4f : OpR X (binaryOp .Mult) (rI CMul fun i j => .int (i * j)) := opI fun _ _ _ _ _ _ _ hc q => mul_int q hc.ok
theorem qb4g : OpR X (binaryOp .FloorDiv) (rI CDiv fun i j => .int (i / j)) := opI fun i j _ _ _ _ _ hc q => by
 have h1 : (0 : Int) < j := hc.1
 have h2 : j < 1073741824 := hc.2
 exact floordiv_int (by omega) (by rw [Int.fdiv_eq_ediv_of_nonneg i (by omega)]; exact q) (.inl (PyProof.noPylong_small (by omega)))
theorem qb1n : OpR X (binaryOp .Mod) (rI (fun _ j => 0 < j) fun i j => .int (i % j)) := opI fun i j _ _ _ _ _ hc q => by
 have h1 : (0 : Int) < j := hc
 exact mod_int' (by omega) (by rw [Int.fmod_eq_emod_of_nonneg i (by omega)]; exact q)
theorem op_pow : OpR X (binaryOp .Pow) (rI CPow fun i j => .int (i ^ j.toNat)) := opI fun _ _ _ _ _ _ _ hc q => pow_int_small hc.1 hc.2.1 hc.2.2 q
theorem op_shr : OpR X (binaryOp .RShift) (rI (fun _ j => 0 <= j) fun i j => .int (i / 2 ^ j.toNat)) := opI fun i j _ _ _ _ _ hc q =>
 rshift_int hc (by rw [Int.fdiv_eq_ediv_of_nonneg i (qe0p _)]; exact q)
theorem unI {f : Value -> Sem Value} {g : Int -> Int}
  (rule : ∀ (i : Int) (t : Tok) (s : Shared) (Q : Value -> Shared -> Prop) (E : Value -> Shared -> Prop), Q (.int (g i) s.toks) { s with toks := s.toks + 1 } -> wpAny (model X.prog X.w) X.A (f (.int i t)) Q E s) :
  UnR X f (rU fun i => .int (g i)) := by
 intro pins s σ H x v Q I rx h
 obtain ⟨i, rfl, q⟩ := h
 obtain ⟨t, rfl⟩ := rx
 exact rule i t s _ _ ⟨.int (g i), H, I.tok _, ⟨_, rfl⟩, q⟩
theorem un_neg : UnR X (unaryOp .USub) (rU fun i => .int (-i)) := unI fun _ _ _ _ _ q => neg_int q
end
noncomputable def scal : V -> V -> Bool
 | .non, .non => true | .non, .int _ => true | .int _, .non => true | .non, .bl _ => true | .bl _, .non => true | .non, .str _ => true | .str _, .non => true
 | .int _, .int _ => true | .bl _, .bl _ => true | .str _, .str _ => true | .byt _, .byt _ => true
 | .int _, .str _ => true | .str _, .int _ => true | .bl _, .str _ => true | .str _, .bl _ => true
 | _, _ => false
noncomputable def rEq : R2 := fun x y H Q => scal x y = true /\ Q (.bl (decide (x = y))) H
noncomputable def rNe : R2 := fun x y H Q => scal x y = true /\ Q (.bl (!decide (x = y))) H
theorem qd7z {i j : Int} : decide (V.int i = V.int j) = (i == j) := by
 rw [Bool.eq_iff_iff]
 simp
theorem dec_bl {i j : Bool} : decide (V.bl i = V.bl j) = (i == j) := by
 rw [Bool.eq_iff_iff]
 simp
theorem qd8a {i j : Str} : decide (V.str i = V.str j) = (i == j) := by
 rw [Bool.eq_iff_iff]
 simp
theorem qd8b {i j : Array UInt8} : decide (V.byt i = V.byt j) = (i.toList == j.toList) := by
 rw [Bool.eq_iff_iff]
 cases i
 cases j
 simp
section
variable {X : Cx} {a b c : Expr} {ta tb tc : TE} {pos : Pos}
theorem qa1q {pins : List (Addr × Obj)} {σ : St} {H : Hp} {s : Shared} {Q : VK} {k k' : Bool} (I : Inv X pins σ H s) (q : Q (.bl k) H) (e : k = k') : EP X pins σ Q (.bool k') s := by
 subst e
 exact ⟨.bl k, H, I, rfl, q⟩
theorem op_eq : OpR X (compareOp .Eq) rEq := by
 intro pins s σ H x y v u Q I rx ry h
 obtain ⟨hs, q⟩ := h
 cases x with
 | non =>
  cases rx
  cases y with
  | non => cases ry; exact PySem.EqNone.eq_none_none (qa1q I q (by simp))
  | bl j => cases ry; exact PySem.EqNone.eq_none_bool (qa1q I q (by simp))
  | int j => obtain ⟨t', rfl⟩ := ry; exact PySem.EqNone.eq_none_int (qa1q I q (by simp))
  | str j => obtain ⟨t', rfl⟩ := ry; exact PySem.EqNone.eq_none_str (qa1q I q (by simp))
  | _ => exact absurd (show false = true from hs) Bool.false_ne_true
 | bl i =>
  cases rx
  cases y with
  | non => cases ry; exact PySem.EqNone.eq_bool_none (qa1q I q (by simp))
  | bl j => cases ry; exact eq_bool (qa1q I q dec_bl)
  | str j => obtain ⟨t', rfl⟩ := ry; exact PySem.EqMixed.eq_bool_str (qa1q I q (by simp))
  | _ => exact absurd (show false = true from hs) Bool.false_ne_true
 | int i =>
  obtain ⟨t, rfl⟩ := rx
  cases y with
  | non => cases ry; exact PySem.EqNone.eq_int_none (qa1q I q (by simp))
  | int j => obtain ⟨t', rfl⟩ := ry; exact eq_int (qa1q I q qd7z)
  | str j => obtain ⟨t', rfl⟩ := ry; exact PySem.EqMixed.eq_int_str (qa1q I q (by simp))
  | _ => exact absurd (show false = true from hs) Bool.false_ne_true
 | str i =>
  obtain ⟨t, rfl⟩ := rx
  cases y with
  | non => cases ry; exact PySem.EqNone.eq_str_none (qa1q I q (by simp))
  | bl j => cases ry; exact PySem.EqMixed.eq_str_bool (qa1q I q (by simp))
  | int j => obtain ⟨t', rfl⟩ := ry; exact PySem.EqMixed.eq_str_int (qa1q I q (by simp))
  | str j => obtain ⟨t', rfl⟩ := ry; exact eq_str (qa1q I q qd8a)
  | _ => exact absurd (show false = true from hs) Bool.false_ne_true
 | byt i =>
  obtain ⟨t, rfl⟩ := rx
  cases y with
  | byt j => obtain ⟨t', rfl⟩ := ry; exact PySem.W.eq_bytes (qa1q I q qd8b)
  | _ => exact absurd (show false = true from hs) Bool.false_ne_true
 | _ => cases y <;> exact absurd (show false = true from hs) Bool.false_ne_true
theorem op_ne : OpR X (compareOp .NotEq) rNe := by
 intro pins s σ H x y v u Q I rx ry h
 obtain ⟨hs, q⟩ := h
 cases x with
 | non =>
  cases rx
  cases y with
  | non => cases ry; exact PySem.EqNone.ne_none_none (qa1q I q (by simp))
  | bl j => cases ry; exact PySem.EqNone.ne_none_bool (qa1q I q (by simp))
  | int j => obtain ⟨t', rfl⟩ := ry; exact PySem.EqNone.ne_none_int (qa1q I q (by simp))
  | str j => obtain ⟨t', rfl⟩ := ry; exact PySem.EqNone.ne_none_str (qa1q I q (by simp))
  | _ => exact absurd (show false = true from hs) Bool.false_ne_true
 | bl i =>
  cases rx
  cases y with
  | non => cases ry; exact PySem.EqNone.ne_bool_none (qa1q I q (by simp))
  | bl j => cases ry; exact ne_bool (qa1q I q (congrArg not dec_bl))
  | str j => obtain ⟨t', rfl⟩ := ry; exact PySem.EqMixed.ne_bool_str (qa1q I q (by simp))
  | _ => exact absurd (show false = true from hs) Bool.false_ne_true
 | int i =>
  obtain ⟨t, rfl⟩ := rx
  cases y with
  | non => cases ry; exact PySem.EqNone.ne_int_none (qa1q I q (by simp))
  | int j => obtain ⟨t', rfl⟩ := ry; exact ne_int (qa1q I q (congrArg not qd7z))
  | str j => obtain ⟨t', rfl⟩ := ry; exact PySem.EqMixed.ne_int_str (qa1q I q (by simp))
  | _ => exact absurd (show false = true from hs) Bool.false_ne_true
 | str i =>
  obtain ⟨t, rfl⟩ := rx
  cases y with
  | non => cases ry; exact PySem.EqNone.ne_str_none (qa1q I q (by simp))
  | bl j => cases ry; exact PySem.EqMixed.ne_str_bool (qa1q I q (by simp))
  | int j => obtain ⟨t', rfl⟩ := ry; exact PySem.EqMixed.ne_str_int (qa1q I q (by simp))
  | str j => obtain ⟨t', rfl⟩ := ry; exact ne_str (qa1q I q (congrArg not qd8a))
  | _ => exact absurd (show false = true from hs) Bool.false_ne_true
 | byt i =>
  obtain ⟨t, rfl⟩ := rx
  cases y with
  | byt j => obtain ⟨t', rfl⟩ := ry; exact PySem.W.ne_bytes (qa1q I q (congrArg not qd8b))
  | _ => exact absurd (show false = true from hs) Bool.false_ne_true
 | _ => cases y <;> exact absurd (show false = true from hs) Bool.false_ne_true
theorem qa6f : OpR X (compareOp .Lt) (rI0 fun i j => .bl (decide (i < j))) := opB0 fun _ _ _ _ _ _ _ q => lt_int q
theorem op_le : OpR X (compareOp .LtE) (rI0 fun i j => .bl (decide (i <= j))) := opB0 fun _ _ _ _ _ _ _ q => le_int q
theorem op_gt : OpR X (compareOp .Gt) (rI0 fun i j => .bl (decide (j < i))) := opB0 fun _ _ _ _ _ _ _ q => gt_int q
theorem op_ge : OpR X (compareOp .GtE) (rI0 fun i j => .bl (decide (j <= i))) := opB0 fun _ _ _ _ _ _ _ q => ge_int q
theorem qe3h : OpR X (compareOp .In) (fun x y H Q => ∃ i j, x = .str i /\ y = .str j /\ Q (.bl (!(Builtin.Str.occurrences j i 0 j.length 1).isEmpty)) H) := by
 intro pins s σ H x y v u Q I rx ry h
 obtain ⟨i, j, rfl, rfl, q⟩ := h
 obtain ⟨t, rfl⟩ := rx
 obtain ⟨t', rfl⟩ := ry
 exact in_str (qa1q I q rfl)
theorem OpR.or {f : Value -> Value -> Sem Value} {r r' : R2} (h : OpR X f r) (h' : OpR X f r') : OpR X f (fun x y H Q => r x y H Q ∨ r' x y H Q) := by
 intro pins s σ H x y v u Q I rx ry q
 rcases q with q | q
 ·exact h pins s σ H x y v u Q I rx ry q
 ·exact h' pins s σ H x y v u Q I rx ry q
theorem qa0m (b : Expr) {op : CmpOp} (h : op ≠ .In := by decide) (h2 : op ≠ .NotIn := by decide) : behindInMarks op b = false := by
 have e1 : (op == CmpOp.In) = false := by cases op <;> first | rfl | exact absurd rfl h
 have e2 : (op == CmpOp.NotIn) = false := by cases op <;> first | rfl | exact absurd rfl h2
 cases b <;> simp [behindInMarks, e1, e2]
theorem qd8c {op : CmpOp} {r : R2} (ho : OpR X (compareOp op) r) (ha : PE X a ta) (hb : PE X b tb) (hm : behindInMarks op b = false) : PE X (.Compare a [op] [b] pos) (tOp r ta tb) := by
 intro pins s σ H Q I h
 exact wpAny_Compare1 (binT ha hb I h fun v u s2 x y H2 I2 rx ry q => ho pins s2 σ H2 x y v u Q I2 rx ry q) hm
noncomputable def tTest (t : TE) : TT := fun σ H Q => t σ H fun x H' => ∃ k, x = .bl k /\ Q k H'
theorem qb9z {op : CmpOp} {r : R2} (ho : OpR X (compareOp op) r) (ha : PE X a ta) (hb : PE X b tb) (hm : behindInMarks op b = false) : PT X (.Compare a [op] [b] pos) (tTest (tOp r ta tb)) := by
 intro pins s σ H Q I h
 refine wpAny_isTrue_Compare1 (thn (ha pins s σ H _ I h) fun v s1 ⟨x, H1, I1, r1, q1⟩ => thn (hb pins s1 σ H1 _ I1 q1) fun u s2 ⟨y, H2, I2, r2, q2⟩ =>
  thn (ho pins s2 σ H2 x y v u _ I2 r1 r2 q2) fun c s3 ⟨z, H3, I3, r3, k, e, q3⟩ => ?_) hm
 subst e
 cases r3
 exact wpAny_truthy_bool ⟨H3, I3, q3⟩
noncomputable def qc8f (r r' : R2) (ta tb tc : TE) : TE := fun σ H Q => ta σ H fun x H1 => tb σ H1 fun y H2 => r x y H2 fun z H3 => ∃ k, z = .bl k /\
 (if k = true then tc σ H3 fun w' H4 => r' y w' H4 Q else Q (.bl false) H3)
theorem qe5j {op op' : CmpOp} {r r' : R2} (ho : OpR X (compareOp op) r) (ho' : OpR X (compareOp op') r') (ha : PE X a ta) (hb : PE X b tb) (hc : PE X c tc)
  (hm : lastMarks [op, op'] [b, c] = false := by with_unfolding_all rfl) : PE X (.Compare a [op, op'] [b, c] pos) (qc8f r r' ta tb tc) := by
 intro pins s σ H Q I h
 refine Compare_chain (thn (ha pins s σ H _ I h) fun v s1 ⟨x, H1, I1, r1, q1⟩ => chain_link (thn (hb pins s1 σ H1 _ I1 q1) fun u s2 ⟨y, H2, I2, r2, q2⟩ =>
  thn (ho pins s2 σ H2 x y v u _ I2 r1 r2 q2) fun d s3 ⟨z, H3, I3, r3, k, e, q3⟩ => ?_)) hm
 subst e
 cases r3
 refine wpAny_truthy_bool ?_
 cases k with
 | false => exact ite_ff ⟨.bl false, H3, I3, rfl, q3⟩
 | true => exact ite_tt (chain_last (thn (hc pins s3 σ H3 _ I3 q3) fun w' s4 ⟨z', H4, I4, r4, q4⟩ => ho' pins s4 σ H4 y z' u w' Q I4 r2 r4 q4))
theorem qe5k {op op' : CmpOp} {r r' : R2} (ho : OpR X (compareOp op) r) (ho' : OpR X (compareOp op') r') (ha : PE X a ta) (hb : PE X b tb) (hc : PE X c tc)
  (hm : lastMarks [op, op'] [b, c] = false := by with_unfolding_all rfl) : PT X (.Compare a [op, op'] [b, c] pos) (tTest (qc8f r r' ta tb tc)) := by
 intro pins s σ H Q I h
 refine isTrue_chain (thn (ha pins s σ H _ I h) fun v s1 ⟨x, H1, I1, r1, q1⟩ => test_link (thn (hb pins s1 σ H1 _ I1 q1) fun u s2 ⟨y, H2, I2, r2, q2⟩ =>
  thn (ho pins s2 σ H2 x y v u _ I2 r1 r2 q2) fun d s3 ⟨z, H3, I3, r3, k, e, q3⟩ => ?_)) hm
 subst e
 cases r3
 refine wpAny_truthy_bool ?_
 cases k with
 | false =>
  obtain ⟨k', e', q'⟩ := q3
  cases e'
  exact ite_ff ⟨H3, I3, q'⟩
 | true =>
  refine ite_tt (test_last (thn (hc pins s3 σ H3 _ I3 q3) fun w' s4 ⟨z', H4, I4, r4, q4⟩ => thn (ho' pins s4 σ H4 y z' u w' _ I4 r2 r4 q4) fun d' s5 ⟨z2, H5, I5, r5, k2, e2, q5⟩ => ?_))
  subst e2
  cases r5
  exact wpAny_truthy_bool ⟨H5, I5, q5⟩
noncomputable def TruV (K : PySem.W.Frag) (x : V) (H : Hp) (k : Bool) : Prop :=
 match x with
 | .non => k = false
 | .bl b => k = b
 | .int i => k = (i != 0)
 | .str y => y.length <= sizeLine /\ k = ((y.length : Int) != 0)
 | .byt y => y.size <= sizeLine /\ k = ((y.size : Int) != 0)
 | .ref p => (∃ xs, SqL K H p xs /\ k = !xs.isEmpty) ∨ (∃ xs, SqT K H p xs /\ k = !xs.isEmpty) ∨ ∃ kvs, H p = some (.dK kvs) /\ k = !kvs.isEmpty
 | _ => False
theorem qe0q {κ : Type} {kvs : List (κ × V)} {vs : List (κ × Value)} (r : KV kvs vs) : (!vs.isEmpty) = !kvs.isEmpty := by
 cases r <;> rfl
theorem qc2o {xs : List V} {its : List Value} (r : Vals xs its) : (!its.toArray.isEmpty) = !xs.isEmpty := by
 cases r <;> simp
theorem qa7r : (sizeLine : Nat) < 2 ^ 63 := by rw [sizeLine_eq]; decide
theorem tru_ok : TruR X (fun x H Q => ∃ k, TruV X.K x H k /\ Q k H) := by
 intro pins s σ H x v Q I rx h
 obtain ⟨k, e, q⟩ := h
 have hl := qa7r
 have hs : sizeLine = 16777216 := sizeLine_eq
 cases x with
 | non =>
  cases rx
  have e' : k = false := e
  subst e'
  exact truthy_none ⟨H, I, q⟩
 | bl b =>
  cases rx
  have e' : k = b := e
  subst e'
  exact wpAny_truthy_bool ⟨H, I, q⟩
 | int i =>
  obtain ⟨t, rfl⟩ := rx
  have e' : k = (i != 0) := e
  subst e'
  exact PySem.P.truthy_int ⟨H, I, q⟩
 | str y =>
  obtain ⟨t, rfl⟩ := rx
  obtain ⟨hy, e'⟩ : y.length <= sizeLine /\ k = ((y.length : Int) != 0) := e
  subst e'
  exact PySem.P.truthy_str (by omega) ⟨H, I.tok _, q⟩
 | byt y =>
  obtain ⟨t, rfl⟩ := rx
  obtain ⟨hy, e'⟩ : y.size <= sizeLine /\ k = ((y.size : Int) != 0) := e
  subst e'
  exact PySem.W.truthy_bytes (by omega) ⟨H, I.tok _, q⟩
 | ref p =>
  cases rx
  have e' : (∃ xs, SqL X.K H p xs /\ k = !xs.isEmpty) ∨ (∃ xs, SqT X.K H p xs /\ k = !xs.isEmpty) ∨ ∃ kvs, H p = some (.dK kvs) /\ k = !kvs.isEmpty := e
  rcases e' with ⟨xs, hx, e'⟩ | ⟨xs, hx, e'⟩ | ⟨kvs, hx, e'⟩
  ·subst e'
   obtain ⟨its, r, pl, hz⟩ := I.list hx
   have hlen := r.length
   exact wpAny_truthy_list pl.isList (by simp only [List.size_toArray]; omega) ⟨H, I.tok _, by rw [qc2o r]; exact q⟩
  ·subst e'
   obtain ⟨its, r, pl, hz⟩ := I.tuple hx
   have hlen := r.length
   exact truthy_tuple pl (by simp only [List.size_toArray]; omega) ⟨H, I.tok _, by rw [qc2o r]; exact q⟩
  ·subst e'
   obtain ⟨hz, hS, vs, r, m⟩ : kvs.length <= sizeLine /\ (p == sysModules) = false /\ ∃ vs, KV kvs vs /\ s.heap.DictOf (qa4m X.prog X.w) p vs := I.hok p _ hx
   have hlen : kvs.length = vs.length := Paired.length r
   exact wpAny_truthy_dict hS m (by omega) ⟨H, I.tok _, by rw [qe0q r]; exact q⟩
 | _ => exact (show False from e).elim
theorem qe5l (ha : PE X a ta) (he : ∀ whole, isTrue a X.env whole = (do let v ← whole; standAt a.pos; holding [v] (truthy v))) :
  PT X a (fun σ H Q => ta σ H fun x H' => ∃ k, TruV X.K x H' k /\ Q k H') := by
 intro pins s σ H Q I h
 exact isTrue_plain (thn (ha pins s σ H _ I h) fun v s1 ⟨x, H1, I1, r1, q1⟩ => tru_ok pins s1 σ H1 x v Q I1 r1 q1) (he _)
theorem qe0r : OpR X (binaryOp .Add) (fun x y H Q => ∃ i j, x = .str i /\ y = .str j /\ i.length + j.length <= sizeLine /\ Q (.str (i ++ j)) H) := by
 intro pins s σ H x y v u Q I rx ry h
 obtain ⟨i, j, rfl, rfl, hz, q⟩ := h
 obtain ⟨t, rfl⟩ := rx
 obtain ⟨t', rfl⟩ := ry
 exact add_str (fun t' tk => ⟨.str (i ++ j), H, I.tok _, ⟨_, rfl⟩, q⟩) hz
theorem vals1 {x : V} {us : List Value} (r : Vals [x] us) : ∃ u, us = [u] /\ RelV x u := by
 cases r with
 | cons r1 r2 => cases r2; exact ⟨_, rfl, r1⟩
theorem qc8g : qa3z X (.type "str") (fun xs H Q => ∃ i, xs = [.int i] /\ i.natAbs.log2 < 1920 /\ Q (.str (toString i)) H) := by
 intro pins s σ H xs us Q I r h
 obtain ⟨i, rfl, hz, q⟩ := h
 obtain ⟨u, rfl, t, rfl⟩ := vals1 r
 exact PySem.P.str_of_int hz ⟨.str _, H, I.tok _, ⟨_, rfl⟩, q⟩
end
end L2
namespace L2
open PySem PySem.Spec PyProof.Rows
structure ObjM (h : Heap) (x dx C : Addr) (mA : Str -> Option Value) : Prop where
 obj : h.get? x = some (PySem.W.instObj C dx)
 ns : h.Ns1 dx mA
 ne : dx ≠ x
section
variable {prog : Program} {w : World} {A : Around} {E : Value -> Shared -> Prop} {s : Shared} {K : PySem.W.Frag} {x dx C f : Addr} {mA : Str -> Option Value} {name : Str} {v : Value}
end
section
variable {P : Program} {w : World} {H H' : Hp} {h h' : Heap} {a C dx : Addr} {fs fs' : List (Str × V)}
end
structure Cls (K : PySem.W.Frag) (C : Addr) : Prop where
 pg : PySem.W.plainGet K C Str.empty = true
 hd : PySem.W.hasDictIn K C = true
 po : PySem.W.plainOver K C = true
 sa : PySem.W.findIn K (.ref C) "__setattr__" = some (some (.builtin "object.__setattr__"))
section
variable {X : Cx} {pins : List (Addr × Obj)} {σ : St} {H : Hp} {s : Shared} {a C dx : Addr} {fs : List (Str × V)} {f : Str} {v : V} {A : Around} {E : Value -> Shared -> Prop}
end
section
variable {X : Cx} {o e value : Expr} {f : Str} {pos pos' tpos : Pos} {ta tv : TE}
end
section
variable {X : Cx} {pins : List (Addr × Obj)} {σ : St} {H : Hp} {s : Shared} {A : Around} {E : Value -> Shared -> Prop} {Q : Value -> Shared -> Prop} {c : Value} {b : Bool}
end
end L2
namespace L2
open PySem PySem.Spec PyProof.Rows
structure Room (k : Nat) (A : Around) : Prop where
 hd : A.handled = none
 dp : A.depth + 3 * k + 5 < recursionLimit
 un : A.units + 16 * k + 200 < cLine
 gd : A.guards = some []
theorem Room.mono {j k : Nat} {A : Around} (r : Room k A) (h : j <= k) : Room j A := ⟨r.hd, by have := r.dp; omega, by have := r.un; omega, r.gd⟩
theorem Room.deeper {k : Nat} {A : Around} (r : Room (k + 1) A) (env : Env) : Room k (A.deeper env) :=
 ⟨r.hd, by have := r.dp; show A.depth + 1 + 3 * k + 5 < _; omega, by have := r.un; show A.units + 3 + 16 * k + 200 < _; omega, r.gd⟩
theorem Room.depth {k : Nat} {A : Around} (r : Room k A) : A.depth < recursionLimit := by have := r.dp; omega
theorem Room.units {k : Nat} {A : Around} (r : Room k A) : A.units + 64 < cLine := by have := r.un; omega
noncomputable def tNil : TA := fun _ H Q => Q [] H
noncomputable def qa7s (ta : TE) (tr : TA) : TA := fun σ H Q => ta σ H fun x H1 => tr σ H1 fun xs H2 => Q (x :: xs) H2
section
variable {X : Cx} {e : Expr} {es : List Expr} {te : TE} {t : TA} {pos : Pos}
theorem qa5k : PA X [] tNil := fun _ _ _ _ H Q I h => Calls.spliced_nil ⟨[], H, I, .nil, h⟩
theorem qa2g (ha : PE X e te) (hr : PA X es t) (hs : starEach (e :: es) X.env = (false, eval e X.env) :: starEach es X.env := by rfl) : PA X (e :: es) (qa7s te t) := by
 intro pos pins s σ H Q I h
 rw [hs]
 show wpAny _ _ (spliced ((false, eval e X.env) :: backTo pos (starEach es X.env))) _ _ s
 refine Calls.spliced_cons (thn (ha pins s σ H _ I h) fun u s1 ⟨x, H1, I1, r1, q1⟩ => ?_)
 exact thn (hr pos pins s1 σ H1 _ I1 q1) fun us s2 ⟨xs, H2, I2, r2, q2⟩ => ⟨x :: xs, H2, I2, .cons r1 r2, q2⟩
noncomputable def tTup (t : TA) : TE := fun σ H Q => t σ H fun xs H1 => xs.length <= sizeLine /\ ∀ p, H1 p = none -> Q (.ref p) (upd H1 p (.tup xs))
noncomputable def tLst (t : TA) : TE := fun σ H Q => t σ H fun xs H1 => xs.length <= sizeLine /\ ∀ p, H1 p = none -> Q (.ref p) (upd H1 p (.lst xs))
theorem pe_tup {x1} (h : PA X es t) : PE X (.Tuple es x1 pos) (tTup t) := by
 intro pins s σ H Q I hq
 refine wpAny_Tuple_spliced (thn (h pos pins s σ H _ I hq) fun us s1 ⟨xs, H1, I1, r, z, q⟩ => ⟨by rw [← r.length]; exact z, ?_⟩)
 have hf : H1 s1.heap.objs.size = none := I1.hok.fresh (Nat.le_refl _)
 refine ⟨.ref s1.heap.objs.size, upd H1 s1.heap.objs.size (.tup xs), I1.laid (t' := s1.toks) (fun b u e => Heap.get?_push_of_some _ e) (Nat.le_refl _) ?_, rfl, q _ hf⟩
 exact ⟨z, us, r, ⟨_, Heap.get?_push_size _ rfl, rfl, _, rfl⟩⟩
theorem pe_lst (h : PA X es t) : PE X (.List es pos) (tLst t) := by
 intro pins s σ H Q I hq
 refine wpAny_List_spliced (thn (h pos pins s σ H _ I hq) fun us s1 ⟨xs, H1, I1, r, z, q⟩ => ⟨by rw [← r.length]; exact z, ?_⟩)
 have hf : H1 s1.heap.objs.size = none := I1.hok.fresh (Nat.le_refl _)
 refine ⟨.ref s1.heap.objs.size, upd H1 s1.heap.objs.size (.lst xs), I1.laid (t' := s1.toks) (fun b u e => Heap.get?_push_of_some _ e) (Nat.le_refl _) ?_, rfl, q _ hf⟩
 exact ⟨z, us, 0, r, Heap.get?_push_size _ rfl⟩
end
noncomputable abbrev Sp := List V -> Hp -> VK -> XK -> Prop
noncomputable abbrev CXT := List Env -> Hp -> Shared -> XK -> Value -> Shared -> Prop
structure Env0 (P : Program) (w : World) (K : PySem.W.Frag) (mg : Str -> Option Value) (base : Heap) (A : Around) (outer : List Env) (s : Shared) (H : Hp) : Prop where
 frames : A.frames = some outer
 mod : Mod K mg base
 bs : ∀ b o, base.get? b = some o -> s.heap.get? b = some o /\ H b = none
 bsz : base.objs.size <= s.heap.objs.size
 funs : s.heap.FunFrames base outer
 frf : ∀ b ∈ frs outer, H b = none
 hok : HOk P w H s.heap
 bare : AllBare s.gens
noncomputable def CE (outer : List Env) (P : Program) (w : World) (H : Hp) (s : Shared) (Q : VK) (u : Value) (s' : Shared) : Prop :=
 ∃ v H', s'.os = s.os /\ AllBare s'.gens /\ Un (frs outer) [] H H' s.heap s'.heap /\ HOk P w H' s'.heap /\ RelV v u /\ Q v H'
noncomputable def CR (CX : CXT) (outer : List Env) (P : Program) (w : World) (H : Hp) (s : Shared) (Q : VK) (E : XK) (r : Result) (s' : Shared) : Prop :=
 match r with
 | .ok (.ret u) => CE outer P w H s Q u s'
 | .ok _ => False
 | .error e => CX outer H s E e s'
structure FnOk (P : Program) (w : World) (K : PySem.W.Frag) (mg : Str -> Option Value) (base : Heap) (CX : CXT) (k : Nat) (f : Addr) (fd : FuncData) (ps : List Str) (sp : Sp) : Prop where
 len : ∀ vs H Q E, sp vs H Q E -> vs.length = ps.length
 run : ∀ (A : Around) (outer : List Env) (s : Shared) (H : Hp) (args : Args) (us : List Value) (vs : List V) (Q : VK) (E : XK), Room k A -> Env0 P w K mg base A outer s H -> BindsTo s fd args (ps.zip us) -> Vals vs us -> sp vs H Q E ->
  codeAny (model P w) A (.call (.ref f) args) (CR CX outer P w H s Q E) s
theorem FnOk.mono {P : Program} {w : World} {K : PySem.W.Frag} {mg : Str -> Option Value} {base : Heap} {CX : CXT} {j k : Nat} {f : Addr} {fd : FuncData} {ps : List Str} {sp : Sp} (F : FnOk P w K mg base CX j f fd ps sp) (h : j <= k) :
  FnOk P w K mg base CX k f fd ps sp := ⟨F.len, fun A outer s H args us vs Q E hr => F.run A outer s H args us vs Q E (hr.mono h)⟩
section
variable {X : Cx} {pins : List (Addr × Obj)} {σ : St} {H : Hp} {s s' : Shared}
theorem Inv.env0 (I : Inv X pins σ H s) : Env0 X.prog X.w X.K X.mg X.base X.A X.stack s H :=
 ⟨I.ok.frames, I.ok.mod, I.bs, Nat.le_trans I.ok.bsz I.sz, I.stack, I.stkFree, I.hok, I.bare⟩
theorem Inv.after {Q : VK} {u : Value} (I : Inv X pins σ H s) (h : CE X.stack X.prog X.w H s Q u s') : EP X pins σ Q u s' := by
 obtain ⟨v, H', os, bare, un, hok, r, q⟩ := h
 obtain ⟨hh, g, d, t, os'⟩ := s'
 obtain rfl : os' = s.os := os
 exact ⟨v, H', I.call (h' := hh) (g' := g) (d' := d) (t' := t) (ch := []) un hok bare (fun b z => absurd z (by simp)), r, q⟩
end
noncomputable def tCall (sp : Sp) (dvs : List V) (E : XK) (t : TA) : TE := fun σ H Q => t σ H fun vs H1 => sp (vs ++ dvs) H1 Q E
noncomputable def Binds (K : PySem.W.Frag) (fd : FuncData) (ps : List Str) (ds : List Value) : Prop :=
 ∀ (s : Shared) (us : List Value), K.In s.heap -> (us ++ ds).length = ps.length -> BindsTo s fd ⟨us, []⟩ (ps.zip (us ++ ds))
theorem Binds.all {K : PySem.W.Frag} {fd : FuncData} {ps : List Str} (h : ∀ us : List Value, us.length = ps.length -> bindArgs fd ⟨us, []⟩ = pure (ps.zip us)) : Binds K fd ps [] := fun s us _ hl => by
 rw [List.append_nil] at hl ⊢
 exact .of_eq (h us hl)
noncomputable def qc8h (CX : CXT) (X : Cx) (E : XK) : Prop := ∀ (pins : List (Addr × Obj)) (σ : St) (H : Hp) (s : Shared) (e : Value) (s' : Shared), Inv X pins σ H s -> CX X.stack H s E e s' -> X.xe e s'
section
variable {X : Cx} {CX : CXT} {k : Nat} {f C : Addr} {fd : FuncData} {ps : List Str} {sp : Sp} {dvs : List V} {ds : List Value} {E : XK} {x m : Str} {p pos apos : Pos} {e o : Expr} {es : List Expr} {ta : TE} {t : TA}
theorem run_fn {pins : List (Addr × Obj)} {σ : St} {H : Hp} {s : Shared} {Q : VK} {us : List Value} {vs : List V} (F : FnOk X.prog X.w X.K X.mg X.base CX k f fd ps sp) (hr : Room k X.A) (hb : Binds X.K fd ps ds) (hd : Vals dvs ds) (hx : qc8h CX X E)
  (I : Inv X pins σ H s) (r : Vals vs us) (h : sp (vs ++ dvs) H Q E) : wpAny (model X.prog X.w) X.A (call (.ref f) us) (EP X pins σ Q) X.xe s := by
 have r2 : Vals (vs ++ dvs) (us ++ ds) := r.append hd
 have hl : (us ++ ds).length = ps.length := by rw [← r2.length]; exact F.len _ _ _ _ h
 refine wpAny_call (codeAny_mono (F.run X.A X.stack s H ⟨us, []⟩ (us ++ ds) (vs ++ dvs) Q E hr I.env0 (hb s us I.kIn hl) r2 h) fun r s' hq => ?_)
 cases r with
 | error e => exact hx pins σ H s e s' I hq
 | ok fl =>
  cases fl with
  | ret u => exact I.after hq
  | next => exact False.elim hq
  | brk => exact False.elim hq
  | cont => exact False.elim hq
theorem pe_call (F : FnOk X.prog X.w X.K X.mg X.base CX k f fd ps sp) (hr : Room k X.A) (hg : Gl X x) (hm : X.mg x = some (.ref f)) (hk : PySem.W.keepIn X.K (.ref f) = true) (hb : Binds X.K fd ps ds) (hd : Vals dvs ds) (hx : qc8h CX X E)
  (ha : PA X (e :: es) t) (hdb : (x == ("__debug__" : Str)) = false := by decide) (he : starEach (e :: es) X.env = (false, eval e X.env) :: starEach es X.env := by rfl) (hpl : (backTo pos (starEach es X.env)).any (·.1) = false := by rfl) :
  PE X (.Call (.Name x p) (e :: es) [] pos) (tCall sp dvs E t) := by
 intro pins s σ H Q I h
 refine wpAny_Call_Name_kw (qd7y I hg hm ?_ hdb)
 refine PySem.W.callWith_K (h₀ := X.base) I.ok.mod.kin hk (thn (ha pos pins s σ H _ I h) fun us s1 ⟨vs, H1, I1, r, q⟩ => ⟨I1.kIn, ?_⟩) he hpl
 exact run_fn F hr hb hd hx I1 r q
end
section
variable {X : Cx} {CX : CXT} {k : Nat} {f C : Addr} {fd : FuncData} {ps ks : List Str} {sp : Sp} {E : XK} {x m : Str} {p pos apos kpos : Pos} {e o : Expr} {es : List Expr} {kws : List Keyword} {te ta : TE} {t tk : TA} {nm : Option Str}
variable {g : List Value -> List Value -> List Value} {gV : List V -> List V -> List V}
end
structure FnScope (N P : List Str) (sc : Scope) : Prop where
 kind : sc.kind = .function
 co : sc.isCoroutine = false
 gen : sc.isGenerator = false
 nd : N.Nodup
 pre : N.take P.length = P
 par : ∀ x ∈ P, sc.names.lookup x = some .local ∨ sc.names.lookup x = some .cell
 nofree : ∀ y ∈ sc.names, y.2 ≠ .free
theorem qc6e {kindOf : Str -> Option NameKind} {x : Str} : ∀ {binds : List (Str × Value)} {m : Str -> Option Value}, (∀ v, (x, v) ∉ binds) -> bindL kindOf binds m x = m x
 | [], _, _ => rfl
 | (n, v) :: r, m, h => by
  unfold bindL
  rw [qc6e fun w hw => h w (List.mem_cons_of_mem _ hw)]
  split
  ·have : x ≠ n := by rintro rfl; exact h v List.mem_cons_self
   simp [this]
  ·rfl
theorem qc6f {kindOf : Str -> Option NameKind} {x : Str} : ∀ {binds : List (Str × Value)} {m : Str -> Option Value}, (∀ v, (x, v) ∉ binds) -> bindC kindOf binds m x = m x
 | [], _, _ => rfl
 | (n, v) :: r, m, h => by
  unfold bindC
  rw [qc6f fun w hw => h w (List.mem_cons_of_mem _ hw)]
  split
  ·rfl
  ·have : x ≠ n := by rintro rfl; exact h v List.mem_cons_self
   simp [this]
theorem qc6g {kindOf : Str -> Option NameKind} {x : Str} {v : Value} : ∀ {P : List Str} {vs : List Value} {i : Nat} {m : Str -> Option Value}, P.Nodup -> P[i]? = some x -> vs[i]? = some v -> kindOf x = some .local ->
  bindL kindOf (P.zip vs) m x = some v
 | [], _, _, _, _, h, _, _ => by simp at h
 | _ :: _, [], _, _, _, _, h, _ => by simp at h
 | p :: P, w :: vs, 0, m, nd, h1, h2, hk => by
  simp at h1 h2; subst h1; subst h2
  show bindL kindOf ((p, w) :: P.zip vs) m p = _
  unfold bindL
  rw [qc6e fun v hv => (List.nodup_cons.mp nd).1 (List.of_mem_zip hv).1, if_pos hk]
  simp
 | p :: P, w :: vs, i + 1, m, nd, h1, h2, hk => by
  show bindL kindOf ((p, w) :: P.zip vs) m x = _
  unfold bindL
  exact qc6g (i := i) (List.nodup_cons.mp nd).2 (by simpa using h1) (by simpa using h2) hk
theorem qc6h {kindOf : Str -> Option NameKind} {x : Str} {v : Value} : ∀ {P : List Str} {vs : List Value} {i : Nat} {m : Str -> Option Value}, P.Nodup -> P[i]? = some x -> vs[i]? = some v -> kindOf x ≠ some .local ->
  bindC kindOf (P.zip vs) m x = some v
 | [], _, _, _, _, h, _, _ => by simp at h
 | _ :: _, [], _, _, _, _, h, _ => by simp at h
 | p :: P, w :: vs, 0, m, nd, h1, h2, hk => by
  simp at h1 h2; subst h1; subst h2
  show bindC kindOf ((p, w) :: P.zip vs) m p = _
  unfold bindC
  rw [qc6f fun v hv => (List.nodup_cons.mp nd).1 (List.of_mem_zip hv).1, if_neg hk]
  simp
 | p :: P, w :: vs, i + 1, m, nd, h1, h2, hk => by
  show bindC kindOf ((p, w) :: P.zip vs) m x = _
  unfold bindC
  exact qc6h (i := i) (List.nodup_cons.mp nd).2 (by simpa using h1) (by simpa using h2) hk
noncomputable def start (N : List Str) (vs : List V) : St := vs.map some ++ List.replicate (N.length - vs.length) none
noncomputable def cxOf (CX : CXT) (P : Program) (w : World) (K : PySem.W.Frag) (mg : Str -> Option Value) (base : Heap) (N : List Str) (qual : Str) (scope : Scope) (f : Addr) (cd : Value) (A : Around) (outer : List Env) (s : Shared) (H : Hp) (E : XK) : Cx where
 prog := P
 w := w
 K := K
 mg := mg
 base := base
 A := A.deeper (envOfC qual scope s.heap.objs.size f cd)
 N := N
 s₀ := s
 H₀ := H
 env := envOfC qual scope s.heap.objs.size f cd
 outer := outer
 stack := envOfC qual scope s.heap.objs.size f cd :: outer
 ex := []
 calm := true
 fn := fun _ => true
 pn := []
 xe := fun e s' => wpAny (model P w) (A.deeper (envOfC qual scope s.heap.objs.size f cd)) (leaving (envOfC qual scope s.heap.objs.size f cd) e) (fun _ s'' => CX outer H s E e s'') (fun e' s'' => CX outer H s E e' s'') s'
theorem qc8i {sc : Scope} {n : Nat} {x : Str} (h : sc.names.lookup x = some .cell) : ∃ c, (cellsFrom n sc.names []).lookup x = some c := by
 have q := PySem.W.cellsFrom_some sc.names n [] (.inl h)
 exact Option.isSome_iff_exists.mp q
theorem qe3j {CX : CXT} {P : Program} {w : World} {K : PySem.W.Frag} {mg : Str -> Option Value} {base : Heap} {N ps : List Str} {qual : Str} {scope : Scope} {f : Addr} {cd : Value} {A : Around} {outer : List Env} {s s1 : Shared} {H : Hp} {E : XK} {us : List Value} {vs : List V}
  (S : FnScope N ps scope) (hd : A.handled = none) (e0 : Env0 P w K mg base A outer s H) (hl : vs.length = ps.length) (r : Vals vs us)
  (x : InCallC s s.heap.objs.size (bindL (envOfC qual scope s.heap.objs.size f cd).kindOf (ps.zip us) fun _ => none) (cellsFrom (s.heap.objs.size + 1) scope.names []) (bindC (envOfC qual scope s.heap.objs.size f cd).kindOf (ps.zip us) fun _ => none) s1) :
  Inv (cxOf CX P w K mg base N qual scope f cd A outer s H E) [] (start N vs) H s1 := by
 have hpl : ps.length <= N.length := by have := congrArg List.length S.pre; rw [List.length_take] at this; omega
 obtain ⟨h1, tk, rfl, hk⟩ := x.done
 have noA : ∀ b : Addr, b ∉ (cxOf CX P w K mg base N qual scope f cd A outer s H E).ex := fun b z => absurd (show b ∈ ([] : List Addr) from z) (by simp)
 refine ⟨⟨e0.mod, S.kind, rfl, rfl, Nat.le_refl _, fun y z c h1 h2 => ?_, fun y hy => ?_, fun y c _ h => ?_, fun _ => hd, Around.frames_deeper e0.frames, .inr ⟨rfl, rfl⟩, fun b z => absurd z (noA b), e0.bs, e0.bsz, fun b _ _ => noA b, fun b z => absurd z (noA b), e0.funs, e0.frf⟩,
  rfl, e0.bare, Un.kept hk, ⟨_, x.toInCall.ns, fun i y v h1 h2 h3 => ?_⟩, fun y c h => ⟨_, x.cell y c h⟩, e0.hok.fresh (Nat.le_refl _), fun y c h => ?_, fun p hp => absurd (show p ∈ ([] : List (Addr × Obj)) from hp) (by simp), e0.hok.kept hk, ?_⟩
 ·exact name_of_addr x.apart (PySem.mem_of_lookup h1) (PySem.mem_of_lookup h2)
 ·have hy : scope.names.lookup y = some .cell ∨ scope.names.lookup y = some .free := hy
  rcases hy with hy | hy
  ·exact qc8i hy
  ·exact absurd rfl (S.nofree _ (PySem.mem_of_lookup hy))
 ·exact Nat.le_of_lt (x.above y c (PySem.mem_of_lookup h))
 ·have hi : i < vs.length := by
   unfold start at h2
   by_cases hi : i < vs.length
   ·exact hi
   ·rw [List.getElem?_append_right (by simpa using hi)] at h2
    rw [List.getElem?_replicate] at h2
    split at h2 <;> cases h2
  have ha : vs[i]? = some v := by
   unfold start at h2
   rw [List.getElem?_append_left (by simpa using hi), List.getElem?_map] at h2
   cases e : vs[i]? with
   | none => rw [e] at h2; cases h2
   | some a => rw [e] at h2; cases h2; rfl
  obtain ⟨u, hu, rv⟩ := r.get ha
  have hp : ps[i]? = some y := by
   rw [← S.pre, List.getElem?_take_of_lt (by omega)]; exact h1
  have ndP : ps.Nodup := by rw [← S.pre]; exact S.nd.sublist (List.take_sublist _ _)
  refine ⟨u, rv, ?_⟩
  rcases S.par y (List.mem_of_getElem? hp) with k | k
  ·exact .inl ⟨k, qc6g ndP hp hu k⟩
  ·obtain ⟨c, e⟩ := qc8i (n := s.heap.objs.size + 1) k
   refine .inr ⟨.inl k, c, e, ?_⟩
   have q := x.cell y c e
   rw [qc6h ndP hp hu (by show scope.names.lookup y ≠ _; rw [k]; decide)] at q
   exact q
 ·exact e0.hok.fresh (Nat.le_of_lt (x.above y c (PySem.mem_of_lookup h)))
 ·unfold start
  show _ = N.length
  rw [List.length_append, List.length_map, List.length_replicate]
  omega
theorem fn_of {CX : CXT} {P : Program} {w : World} {K : PySem.W.Frag} {mg : Str -> Option Value} {base : Heap} {k : Nat} {f : Addr} {name qual : Str} {params : Arguments} {body : List Stmt} {scope : Scope} {dV kV doc pm cdv ct oc : Value} {an od : Option Addr}
  {osl : Array (Option Value)} {N ps : List Str} {sp : Sp} (lk : K.lookup f = some ⟨oc, od, .func (PySem.W.fnOf name qual params body scope dV kV doc pm an cdv ct), osl⟩) (hcd : PySem.W.codeIn K cdv qual = true) (S : FnScope N ps scope)
  (len : ∀ vs H Q E, sp vs H Q E -> vs.length = ps.length)
  (hbody : ∀ (A : Around) (outer : List Env) (s : Shared) (H : Hp) (vs : List V) (Q : VK) (E : XK), Room k (A.deeper (envOfC qual scope s.heap.objs.size f cdv)) -> sp vs H Q E ->
   ∃ t, PSs (cxOf CX P w K mg base N qual scope f cdv A outer s H E) body t /\ t { nx := fun _ H' => Q .non H', rt := Q } (start N vs) H) :
  FnOk P w K mg base CX (k + 1) f (PySem.W.fnOf name qual params body scope dV kV doc pm an cdv ct) ps sp := by
 refine ⟨len, fun A outer s H args us vs Q E hr e0 hb r hsp => ?_⟩
 have hl := len _ _ _ _ hsp
 have KX : K.In s.heap := e0.mod.kin.keeps fun b o e => (e0.bs b o e).1
 have lim : s.heap.NoLimit := e0.mod.nolimit.keeps fun b o e => (e0.bs b o e).1
 have hkind : ∀ y ∈ ps.zip us, scope.names.lookup y.1 = some .local ∨ (scope.names.lookup y.1 = some .cell /\ ((cellsFrom (s.heap.objs.size + 1) scope.names []).lookup y.1).isSome = true) := fun ⟨n, v⟩ hy => by
  rcases S.par n (List.of_mem_zip hy).1 with q | q
  ·exact .inl q
  ·exact .inr ⟨q, PySem.W.cellsFrom_some _ _ _ (.inl q)⟩
 refine codeAny_call_function hr.depth (KX _ _ lk) rfl S.co S.gen rfl (PySem.W.codeRec_of KX hcd) (hb _ _ _ _ ?_)
 refine wpAny_newFunctionEnv_cells S.kind hkind fun env he s1 x => ?_
 subst he
 refine ⟨lim.keeps x.toInCall.keep, codeAny_func ?_⟩
 obtain ⟨t, ht, hq⟩ := hbody A outer s H vs Q E (hr.deeper _) hsp
 have I : Inv (cxOf CX P w K mg base N qual scope f cdv A outer s H E) [] (start N vs) H s1 := qe3j S hr.hd e0 hl r x
 refine wpAny_mono (ht [] s1 (start N vs) H _ I hq) (fun fl s' hs => ?_) fun e s' hs => hs
 have fin : ∀ {σ' : St} {H' : Hp} {v : V} {u : Value}, Inv (cxOf CX P w K mg base N qual scope f cdv A outer s H E) [] σ' H' s' -> RelV v u -> Q v H' -> CE outer P w H s Q u s' :=
  fun {σ' H' v u} J rv q => ⟨v, H', J.os, J.bare, J.base, J.hok, rv, q⟩
 cases fl with
 | ret u =>
  obtain ⟨v, σ', H', J, rv, q⟩ := hs
  exact fin J rv q
 | next =>
  obtain ⟨σ', H', J, q⟩ := hs
  exact fin (v := V.non) (u := Value.none) J rfl q
 | brk =>
  obtain ⟨_, _, _, q⟩ := hs
  exact False.elim q
 | cont =>
  obtain ⟨_, _, _, q⟩ := hs
  exact False.elim q
end L2
namespace L2
open PySem PySem.Spec PyProof.Rows
section
variable {X : Cx} {x : Str} {p pos : Pos} {e : Expr} {es : List Expr} {t : TA} {id T : String} {r : List V -> Hp -> VK -> Prop}
noncomputable def tCB (r : List V -> Hp -> VK -> Prop) (t : TA) : TE := fun σ H Q => t σ H fun vs H1 => r vs H1 Q
theorem qb1o (hc : qa3z X (.builtin id) r) (hg : Gl X x) (hm : X.mg x = none) (hv : bootBuiltins x = some (.builtin id)) (ha : PA X (e :: es) t) (hn : x ≠ "__name__" := by decide) (hdb : (x == ("__debug__" : Str)) = false := by decide)
  (he : starEach (e :: es) X.env = (false, eval e X.env) :: starEach es X.env := by rfl) (hpl : (backTo pos (starEach es X.env)).any (·.1) = false := by rfl) : PE X (.Call (.Name x p) (e :: es) [] pos) (tCB r t) := by
 intro pins s σ H Q I h
 refine wpAny_Call_Name_kw (qb1l I hg hm hv ?_ hn hdb)
 exact PyProof.Rows.callWith_builtin1 (thn (ha pos pins s σ H _ I h) fun us s1 ⟨vs, H1, I1, r1, q1⟩ => hc pins s1 σ H1 vs us Q I1 r1 q1) he hpl
theorem qc6i (hc : qa3z X (.type T) r) (hg : Gl X x) (hm : X.mg x = none) (hv : bootBuiltins x = some (.type T)) (ha : PA X (e :: es) t) (hn : x ≠ "__name__" := by decide) (hdb : (x == ("__debug__" : Str)) = false := by decide)
  (he : starEach (e :: es) X.env = (false, eval e X.env) :: starEach es X.env := by rfl) (hpl : (backTo pos (starEach es X.env)).any (·.1) = false := by rfl) : PE X (.Call (.Name x p) (e :: es) [] pos) (tCB r t) := by
 intro pins s σ H Q I h
 refine wpAny_Call_Name_kw (qb1l I hg hm hv ?_ hn hdb)
 exact PyProof.Rows.callWith_type1 (thn (ha pos pins s σ H _ I h) fun us s1 ⟨vs, H1, I1, r1, q1⟩ => hc pins s1 σ H1 vs us Q I1 r1 q1) he hpl
end
end L2
namespace HT
open PySem PyProof.Rows
section
open PySem.SeqAt
open PySem.AutoSeq1 (wpAny_loadPart')
open PySem.MeetsSeq PySem.MeetsSeq2 PySem.MeetsSeq3
end
section
variable {prog : Program} {w : World} {A : Around} {E : Value -> Shared -> Prop} {s : Shared}
theorem cat_tup {t b : Addr} {vs ws : List Value} {Q : Value -> Shared -> Prop} (ht : IsTup s.heap t vs.toArray) (hb : IsTup s.heap b ws.toArray) (hv : vs ≠ [])
  (h1 : ws = [] -> Q (.ref t) s) (h2 : ws ≠ [] -> Q (.ref s.heap.objs.size) { s with heap := s.heap.push { cls := .type "tuple", data := .seq (vs ++ ws).toArray } })
  (hsz : vs.length + ws.length <= sizeLine) : wpAny (model prog w) A (binaryOp .Add (.ref t) (.ref b)) Q E s := by
 obtain ⟨⟨cls, dd, data, sl⟩, ho, hc, n, hd⟩ := id ht
 obtain ⟨⟨cls2, dd2, data2, sl2⟩, ho2, hc2, n2, hd2⟩ := id hb
 simp only at hc hd hc2 hd2
 subst hc hd hc2 hd2
 have e : vs.toArray ++ ws.toArray = (vs ++ ws).toArray := by simp
 by_cases hw : ws = []
 ·exact concat_meets ⟨_, ho, rfl⟩ ⟨_, ho2, rfl⟩ noFill_tuple_add seq_tuple_add PySem.F.slot_tuple_add PySem.F.entry_tuple_add (PySem.F.args_tuple_add_2 _ _)
   (tuple_addW1 t b vs.toArray ws.toArray n n2 dd dd2 sl sl2 (by simpa using hv) (by simp [hw])) ⟨ho, ho2, h1 hw⟩
 ·refine concat_meets ⟨_, ho, rfl⟩ ⟨_, ho2, rfl⟩ noFill_tuple_add seq_tuple_add PySem.F.slot_tuple_add PySem.F.entry_tuple_add (PySem.F.args_tuple_add_2 _ _)
   (tuple_addW2 t b vs.toArray ws.toArray n n2 dd dd2 sl sl2 (by simpa using hv) (by simpa using hw) (by rw [List.size_toArray, List.size_toArray]; exact hsz)) ⟨ho, ho2, ?_⟩
  rw [e]
  exact h2 hw
noncomputable def sIx (n d : Nat) : Option Int -> Nat
 | none => d
 | some v => if v < 0 then (v + (n : Int)).toNat else min v.toNat n
theorem qc1d (n d : Nat) : sIx n d none = d := rfl
theorem qc0a (n d k : Nat) : sIx n d (some (k : Int)) = min k n := by
 show (if (k : Int) < 0 then ((k : Int) + (n : Int)).toNat else min (k : Int).toNat n) = min k n
 rw [if_neg (by omega), Int.toNat_natCast]
theorem sIx_le (n d : Nat) (hd : d <= n) (o : Option Int) : sIx n d o <= n := by
 cases o with
 | none => exact hd
 | some v =>
  show (if v < 0 then (v + (n : Int)).toNat else min v.toNat n) <= n
  by_cases hv : v < 0
  ·rw [if_pos hv]; omega
  ·rw [if_neg hv]; exact Nat.min_le_right _ _
theorem qd8d (v : Int) (n d : Nat) : (if v < 0 then max (v + (n : Int)) 0 else min v (n : Int)) = ((sIx n d (some v) : Nat) : Int) := by
 show (if v < 0 then max (v + (n : Int)) 0 else min v (n : Int)) = (((if v < 0 then (v + (n : Int)).toNat else min v.toNat n) : Nat) : Int)
 by_cases hv : v < 0
 ·simp only [if_pos hv]; omega
 ·simp only [if_neg hv]; omega
theorem qe0s (lo hi : Option Int) (n : Nat) : Builtin.Slice.sliceAdjust lo hi 1 (n : Int) = (((sIx n 0 lo : Nat) : Int), ((sIx n n hi : Nat) : Int)) := by
 have h1 : ¬ ((1 : Int) < 0) := by omega
 unfold Builtin.Slice.sliceAdjust
 simp only [h1, if_false]
 refine Prod.ext ?_ ?_
 ·cases lo with
  | none => rfl
  | some v => exact qd8d v n 0
 ·cases hi with
  | none => rfl
  | some v => exact qd8d v n n
theorem qe0t (i j : Nat) : Builtin.Slice.slicePlaces (i : Int) (j : Int) 1 = j - i := by
 unfold Builtin.Slice.slicePlaces
 have h1 : (1 : Int) > 0 := by omega
 simp only [h1, if_true, Int.ediv_one]
 split <;> omega
theorem qc2p {v : Value} {o : Option Int} {Q : Option Int -> Shared -> Prop} (p : IsPart v o) (h : Q o s) : wpAny (model prog w) A (Builtin.Slice.slicePartIndex v) Q E s := by
 cases p with
 | none => exact slicePart_none h
 | int i t => exact slicePart_int h
theorem qb1p {sl : Addr} {vl vu : Value} {lo hi : Option Int} {n : Nat} {Q : Int × Int × Nat -> Shared -> Prop} (hs : s.heap.IsSliceOf sl vl vu .none) (pl : IsPart vl lo) (pu : IsPart vu hi)
  (h : Q (((sIx n 0 lo : Nat) : Int), 1, sIx n n hi - sIx n 0 lo) s) : wpAny (model prog w) A (Builtin.Slice.sliceApplied (.ref sl) (pure (n : Int))) Q E s := by
 obtain ⟨os, hos, hcs, hds⟩ := id hs
 unfold Builtin.Slice.sliceApplied Builtin.Slice.sliceFields
 refine wpAny_bind (wpAny_bind (wpAny_field hos hds (x := vl) rfl (wpAny_bind (wpAny_field hos hds (x := vu) rfl (wpAny_bind (wpAny_field hos hds (x := .none) rfl (wpAny_pure ?_)))))))
 refine wpAny_bind (slicePart_none ?_)
 show wpAny _ _ (if ((1 : Int) == 0) = true then _ else _) _ _ s
 rw [if_neg (by decide)]
 refine wpAny_bind (qc2p pl (wpAny_bind (qc2p pu (wpAny_bind (wpAny_pure ?_)))))
 show wpAny _ _ (match Builtin.Slice.sliceAdjust lo hi 1 (n : Int) with | (lo, hi) => pure (lo, (1 : Int), Builtin.Slice.slicePlaces lo hi 1)) _ _ s
 rw [qe0s lo hi n]
 show wpAny _ _ (pure (((sIx n 0 lo : Nat) : Int), (1 : Int), Builtin.Slice.slicePlaces ((sIx n 0 lo : Nat) : Int) ((sIx n n hi : Nat) : Int) 1)) _ _ s
 rw [qe0t]
 exact wpAny_pure h
theorem qe5m (xs : Array Value) (i k : Nat) : ((List.range k).filterMap fun (m : Nat) => xs[((i : Int) + (m : Int) * 1).toNat]?).toArray = ((xs.toList.drop i).take k).toArray := by
 have e : (fun (m : Nat) => xs[((i : Int) + (m : Int) * 1).toNat]?) = fun m => xs[i + m]? := by
  funext m
  have : ((i : Int) + (m : Int) * 1).toNat = i + m := by omega
  rw [this]
 rw [e]
 have := pick_run xs i k
 rw [List.filterMap_map] at this
 have e2 : ((fun x => xs[x]?) ∘ fun x => i + x) = fun m => xs[i + m]? := rfl
 rw [e2] at this
 rw [this]
theorem qc0j {t sl : Addr} {items : Array Value} {vl vu : Value} {lo hi : Option Int} {Q : Value -> Shared -> Prop} (ht : IsTup s.heap t items) (hs : s.heap.IsSliceOf sl vl vu .none) (pl : IsPart vl lo) (pu : IsPart vu hi)
  (hw : ¬ (sIx items.size 0 lo = 0 /\ sIx items.size items.size hi = items.size))
  (h : Q (.ref s.heap.objs.size) { s with heap := s.heap.push { cls := .type "tuple", data := .seq ((items.toList.drop (sIx items.size 0 lo)).take (sIx items.size items.size hi - sIx items.size 0 lo)).toArray } })
  (hsz : items.size <= sizeLine) : wpAny (model prog w) A (getItem (.ref t) (.ref sl)) Q E s := by
 have htake : sizeOk (.seq ((items.toList.drop (sIx items.size 0 lo)).take (sIx items.size items.size hi - sIx items.size 0 lo)).toArray) := by
  show ((items.toList.drop (sIx items.size 0 lo)).take (sIx items.size items.size hi - sIx items.size 0 lo)).toArray.size <= sizeLine
  rw [List.size_toArray, List.length_take, List.length_drop, Array.length_toList]
  omega
 have hj : sIx items.size items.size hi <= items.size := sIx_le _ _ (Nat.le_refl _) hi
 obtain ⟨os, hos, hcs, hds⟩ := id hs
 have hTs : s.TypeIs (.ref sl) "slice" := ⟨os, hos, hcs⟩
 unfold getItem
 try with_reducible refine wpAny_holding ?_
 first | refine wpAny_bind (wpAny_pure ?_) | skip
 refine wpAny_bind (wpAny_sequenceKey ht.typeIs (by decide) ?_)
 refine wpAny_bind (wpAny_callSpecial?_slot (name := Str.ofString "__getitem__") ht.typeIs PyProof.Rows.slot_tuple_getitem
  (wpAny_call_entry PyProof.Rows.slot_tuple_getitem ht.typeIs entry_tuple_getitem ?_ (args_tuple_getitem _ _)))
 show wpAny _ _ (Builtin.Tuple.tupleItemsOf (.ref t) >>= _) _ _ s
 refine wpAny_bind (tupleItemsOf_ ht ?_)
 refine wpAny_bind (wpAny_typeOf hTs ?_)
 rw [if_pos (by decide)]
 refine wpAny_bind (qb1p hs pl pu ?_)
 have hno : ¬ ((((sIx items.size 0 lo : Nat) : Int) == 0 && (1 : Int) == 1 && (sIx items.size items.size hi - sIx items.size 0 lo) == items.size) = true) := by
  intro q
  rw [Bool.and_eq_true, Bool.and_eq_true] at q
  have q1 : ((sIx items.size 0 lo : Nat) : Int) = 0 := eq_of_beq q.1.1
  have q2 : sIx items.size items.size hi - sIx items.size 0 lo = items.size := eq_of_beq q.2
  exact hw ⟨by omega, by omega⟩
 show wpAny _ _ (if (((sIx items.size 0 lo : Nat) : Int) == 0 && (1 : Int) == 1 && (sIx items.size items.size hi - sIx items.size 0 lo) == items.size) = true then _ else _) _ _ s
 rw [if_neg hno, qe5m]
 first
  | exact wpAny_bind (m := Builtin.Tuple.tupleExact _) (wpAny_newObj_type (wpAny_pure ⟨_, rfl, wpAny_pure h⟩) htake)
  | exact wpAny_bind (m := Builtin.Tuple.tupleExact _) (wpAny_newObj_type (wpAny_bind (wpAny_pure (wpAny_pure ⟨_, rfl, wpAny_pure h⟩))) htake)
  | exact wpAny_bind (wpAny_bind (m := Builtin.Tuple.tupleExact _) (wpAny_newObj_type (wpAny_pure (wpAny_pure ⟨_, rfl, wpAny_pure h⟩)) htake))
  | exact wpAny_bind (wpAny_bind (m := Builtin.Tuple.tupleExact _) (wpAny_newObj_type (wpAny_pure ⟨_, rfl, wpAny_pure h⟩) htake))
end
end HT
namespace L2
open PySem PySem.Spec PyProof.Rows
noncomputable abbrev TO := St -> Hp -> (Option Int -> Hp -> Prop) -> Prop
noncomputable def PO (X : Cx) (e : Option Expr) (t : TO) : Prop :=
 ∀ (pins : List (Addr × Obj)) (s : Shared) (σ : St) (H : Hp) (Q : Option Int -> Hp -> Prop), Inv X pins σ H s -> t σ H Q ->
  wpAny (model X.prog X.w) X.A (evalPart e X.env) (fun u s' => ∃ o H', Inv X pins σ H' s' /\ IsPart u o /\ Q o H') X.xe s
noncomputable def qd8e : TO := fun _ H Q => Q none H
noncomputable def tPart (t : TE) : TO := fun σ H Q => t σ H fun x H1 => ∃ i, x = .int i /\ Q (some i) H1
section
variable {X : Cx} {e : Expr} {te : TE} {lo hi : Option Expr} {tl th : TO} {pos p2 : Pos}
theorem po_none : PO X none qd8e := by
 intro pins s σ H Q I h
 rw [evalPart_none]
 exact wpAny_pure ⟨none, H, I, .none, h⟩
theorem po_some (h : PE X e te) : PO X (some e) (tPart te) := by
 intro pins s σ H Q I hw
 rw [evalPart_some]
 refine thn (h pins s σ H _ I hw) fun u s1 ⟨x, H1, I1, r1, q1⟩ => ?_
 obtain ⟨i, rfl, q⟩ := q1
 obtain ⟨t, rfl⟩ := r1
 exact ⟨some i, H1, I1, .int i t, q⟩
noncomputable def SlR (X : Cx) (r : V -> Option Int -> Option Int -> Hp -> VK -> Prop) : Prop :=
 ∀ (pins : List (Addr × Obj)) (s : Shared) (σ : St) (H : Hp) (x : V) (v vl vu : Value) (lo hi : Option Int) (sl : Addr) (Q : VK), Inv X pins σ H s -> RelV x v -> s.heap.IsSliceOf sl vl vu .none -> IsPart vl lo -> IsPart vu hi -> r x lo hi H Q ->
  ∃ T id, typeLookup (.type T) "__getitem__" = pure (some (.builtin id)) /\ s.TypeIs v T /\ wpAny (model X.prog X.w) X.A (getItem v (.ref sl)) (EP X pins σ Q) X.xe s
theorem SlR.or {r r' : V -> Option Int -> Option Int -> Hp -> VK -> Prop} (h : SlR X r) (h' : SlR X r') : SlR X (fun x lo hi H Q => r x lo hi H Q ∨ r' x lo hi H Q) := by
 intro pins s σ H x v vl vu lo hi sl Q I rx hs pl pu q
 rcases q with q | q
 ·exact h pins s σ H x v vl vu lo hi sl Q I rx hs pl pu q
 ·exact h' pins s σ H x v vl vu lo hi sl Q I rx hs pl pu q
noncomputable def tSl (r : V -> Option Int -> Option Int -> Hp -> VK -> Prop) (te : TE) (tl th : TO) : TE := fun σ H Q => te σ H fun x H1 => tl σ H1 fun l H2 => th σ H2 fun u H3 => r x l u H3 Q
theorem qe5n {r : V -> Option Int -> Option Int -> Hp -> VK -> Prop} (hr : SlR X r) (he : PE X e te) (hl : PO X lo tl) (hu : PO X hi th) : PE X (.Subscript e (.Slice lo hi none p2) pos) (tSl r te tl th) := by
 intro pins s σ H Q I h
 refine Subscript_ (thn (he pins s σ H _ I h) fun v s1 ⟨x, H1, I1, r1, q1⟩ => ?_)
 refine wpAny_Slice (thn (hl pins s1 σ H1 _ I1 q1) fun vl s2 ⟨l, H2, I2, pl, q2⟩ => thn (hu pins s2 σ H2 _ I2 q2) fun vu s3 ⟨u, H3, I3, pu, q3⟩ => ?_)
 rw [evalPart_none]
 refine wpAny_pure ?_
 have I4 : Inv X pins σ H3 { s3 with heap := s3.heap.push { cls := .type "slice", data := .fields #[vl, vu, .none] } } := I3.kept (t' := s3.toks) fun b ob q => Heap.get?_push_of_some _ q
 obtain ⟨T, id, hT, ht, hg⟩ := hr pins { s3 with heap := s3.heap.push { cls := .type "slice", data := .fields #[vl, vu, .none] } } σ H3 x v vl vu l u s3.heap.objs.size Q I4 r1 (Heap.IsSliceOf.new ..) pl pu q3
 show wpAny (model X.prog X.w) X.A (subscriptTail e (.Slice lo hi none p2) v (.ref s3.heap.objs.size)) (EP X pins σ Q) X.xe { s3 with heap := s3.heap.push { cls := .type "slice", data := .fields #[vl, vu, .none] } }
 exact tail_any (ops := [.ref s3.heap.objs.size, v]) ht hT hg (by with_unfolding_all rfl)
noncomputable def cutV (xs : List V) (lo hi : Option Int) : List V := (xs.drop (HT.sIx xs.length 0 lo)).take (HT.sIx xs.length xs.length hi - HT.sIx xs.length 0 lo)
theorem qd4h (xs : List V) (lo hi : Option Int) : (cutV xs lo hi).length <= xs.length := by
 unfold cutV
 rw [List.length_take, List.length_drop]
 omega
noncomputable def rSlT (K : PySem.W.Frag) : V -> Option Int -> Option Int -> Hp -> VK -> Prop := fun x lo hi H Q => ∃ a xs, x = .ref a /\ SqT K H a xs /\
 ¬ (HT.sIx xs.length 0 lo = 0 /\ HT.sIx xs.length xs.length hi = xs.length) /\ ∀ p, H p = none -> Q (.ref p) (upd H p (.tup (cutV xs lo hi)))
theorem qa6h : SlR X (rSlT X.K) := by
 intro pins s σ H x v vl vu lo hi sl Q I rx hs pl pu h
 obtain ⟨a, xs, rfl, hx, hw, q⟩ := h
 cases rx
 obtain ⟨its, r, ht, hz⟩ := I.tuple hx
 have hlen : its.toArray.size = xs.length := by rw [List.size_toArray]; exact r.length.symm
 refine ⟨"tuple", _, PyProof.Rows.slot_tuple_getitem.lookup, ht.typeIs, ?_⟩
 refine HT.qc0j ht hs pl pu (by rw [hlen]; exact hw) ?_ (by rw [hlen]; exact hz)
 rw [hlen]
 refine ⟨.ref s.heap.objs.size, _, I.laid (t' := s.toks) (o := .tup (cutV xs lo hi)) (fun b ob q => Heap.get?_push_of_some _ q) (Nat.le_refl _) ?_, rfl, q _ (I.hok.fresh (Nat.le_refl _))⟩
 exact ⟨Nat.le_trans (qd4h xs lo hi) hz, _, (r.drop (HT.sIx xs.length 0 lo)).take (HT.sIx xs.length xs.length hi - HT.sIx xs.length 0 lo), IsTup.new _ _⟩
noncomputable def rCatT (K : PySem.W.Frag) : R2 := fun x y H Q => ∃ a b xs ys, x = .ref a /\ y = .ref b /\ SqT K H a xs /\ SqT K H b ys /\ xs ≠ [] /\ xs.length + ys.length <= sizeLine /\
 (ys = [] -> Q (.ref a) H) /\ (ys ≠ [] -> ∀ p, H p = none -> Q (.ref p) (upd H p (.tup (xs ++ ys))))
theorem Vals.nil_iff {xs : List V} {us : List Value} (r : Vals xs us) : us = [] ↔ xs = [] := by
 cases r with
 | nil => simp
 | cons _ _ => simp
theorem op_catT : OpR X (binaryOp .Add) (rCatT X.K) := by
 intro pins s σ H x y v u Q I rx ry h
 obtain ⟨a, b, xs, ys, rfl, rfl, ha, hb, hx, hz, q1, q2⟩ := h
 cases rx
 cases ry
 obtain ⟨its, r1, p1, _⟩ := I.tuple ha
 obtain ⟨its2, r2, p2, _⟩ := I.tuple hb
 refine HT.cat_tup p1 p2 (fun z => hx (r1.nil_iff.mp z)) (fun z => ⟨.ref a, H, I, rfl, q1 (r2.nil_iff.mp z)⟩) (fun z => ?_) (by rw [← r1.length, ← r2.length]; exact hz)
 refine ⟨.ref s.heap.objs.size, _, I.laid (t' := s.toks) (o := .tup (xs ++ ys)) (fun b ob q => Heap.get?_push_of_some _ q) (Nat.le_refl _) ?_, rfl, q2 (fun w => z (r2.nil_iff.mpr w)) _ (I.hok.fresh (Nat.le_refl _))⟩
 exact ⟨by rw [List.length_append]; exact hz, _, r1.append r2, IsTup.new _ _⟩
end
end L2
namespace L2
open PySem PySem.Spec PyProof.Rows
noncomputable def ixN (n : Nat) (i : Int) : Option Nat := if 0 <= i then (if i < n then some i.toNat else none) else if -(n : Int) <= i then some (i + n).toNat else none
noncomputable def atI {α : Type} (xs : List α) (i : Int) : Option α := (ixN xs.length i).bind fun j => xs[j]?
theorem qd8f {n : Nat} {i : Int} {j : Nat} (h : ixN n i = some j) : seqIndex? i n = some j /\ j < n /\ -(n : Int) <= i /\ i < n := by
 unfold ixN at h
 by_cases h0 : 0 <= i
 ·rw [if_pos h0] at h
  by_cases h1 : i < n
  ·rw [if_pos h1] at h
   have e : i.toNat = j := Option.some.inj h
   exact ⟨by rw [seqIndex_of h0 h1, e], by omega, by omega, h1⟩
  ·rw [if_neg h1] at h; cases h
 ·rw [if_neg h0] at h
  by_cases h1 : -(n : Int) <= i
  ·rw [if_pos h1] at h
   have e : (i + n).toNat = j := Option.some.inj h
   exact ⟨by rw [seqIndex_neg (by omega) h1, e], by omega, h1, by omega⟩
  ·rw [if_neg h1] at h; cases h
theorem qc4f {α : Type} {xs : List α} {i : Int} {v : α} (h : atI xs i = some v) : ∃ j, seqIndex? i xs.length = some j /\ xs[j]? = some v /\ j < xs.length /\ -(xs.length : Int) <= i /\ i < xs.length := by
 unfold atI at h
 cases e : ixN xs.length i with
 | none => rw [e] at h; cases h
 | some j =>
  rw [e] at h
  obtain ⟨h1, h2, h3, h4⟩ := qd8f e
  exact ⟨j, h1, h, h2, h3, h4⟩
theorem qb1f {α : Type} {xs : List α} {j : Nat} {v : α} (h : xs[j]? = some v) : atI xs (j : Int) = some v := by
 have hj : j < xs.length := (List.getElem?_eq_some_iff.mp h).1
 have e : ixN xs.length (j : Int) = some j := by
  unfold ixN
  rw [if_pos (by omega), if_pos (by omega)]; simp
 unfold atI; rw [e]; exact h
noncomputable def qc4g (b : Expr) : Prop := ∀ o i, subscripted b false o i = operate [o, i] (getItem o i)
noncomputable def IxR (X : Cx) (r : R2) : Prop :=
 ∀ (value slice : Expr) (pins : List (Addr × Obj)) (s : Shared) (σ : St) (H : Hp) (x y : V) (v u : Value) (Q : VK), Inv X pins σ H s -> RelV x v -> RelV y u -> r x y H Q ->
  subscripted slice false v u = operate [v, u] (getItem v u) -> wpAny (model X.prog X.w) X.A (subscriptTail value slice v u) (EP X pins σ Q) X.xe s
noncomputable def MtR (X : Cx) (id : String) (r : V -> List V -> Hp -> VK -> Prop) : Prop :=
 ∀ (pins : List (Addr × Obj)) (s : Shared) (σ : St) (H : Hp) (x : V) (xs : List V) (v : Value) (us : List Value) (Q : VK), Inv X pins σ H s -> RelV x v -> Vals xs us -> r x xs H Q ->
  wpAny (model X.prog X.w) X.A (call (.builtin id) (v :: us)) (EP X pins σ Q) X.xe s
section
variable {X : Cx} {a b : Expr} {ta tb : TE} {pos : Pos}
theorem IxR.or {r r' : R2} (h : IxR X r) (h' : IxR X r') : IxR X (fun x y H Q => r x y H Q ∨ r' x y H Q) := by
 intro value slice pins s σ H x y v u Q I rx ry q hs
 rcases q with q | q
 ·exact h value slice pins s σ H x y v u Q I rx ry q hs
 ·exact h' value slice pins s σ H x y v u Q I rx ry q hs
theorem pe_ix {r : R2} (hr : IxR X r) (ha : PE X a ta) (hb : PE X b tb) (hs : qc4g b) : PE X (.Subscript a b pos) (tOp r ta tb) := by
 intro pins s σ H Q I h
 exact Subscript_ (binT ha hb I h fun v u s2 x y H2 I2 rx ry q => hr a b pins s2 σ H2 x y v u Q I2 rx ry q (hs _ _))
noncomputable def rIxL (K : PySem.W.Frag) : R2 := fun x y H Q => ∃ p xs i v, x = .ref p /\ y = .int i /\ SqL K H p xs /\ atI xs i = some v /\ Q v H
noncomputable def rIxT (K : PySem.W.Frag) : R2 := fun x y H Q => ∃ p xs i v, x = .ref p /\ y = .int i /\ SqT K H p xs /\ atI xs i = some v /\ Q v H
noncomputable def rIxS : R2 := fun x y H Q => ∃ z i c, x = .str z /\ y = .int i /\ z.length <= sizeLine /\ atI z.cps.toList i = some c /\ Q (.str ⟨#[c]⟩) H
theorem qb4h : IxR X (rIxL X.K) := by
 intro value slice pins s σ H x y v u Q I rx ry h hs
 obtain ⟨p, xs, i, z, rfl, rfl, hq, he, q⟩ := h
 cases rx
 obtain ⟨t, rfl⟩ := ry
 obtain ⟨its, r, pl, hz⟩ := I.list hq
 obtain ⟨j, h1, h2, h3, h4, h5⟩ := qc4f he
 obtain ⟨w, ew, rw'⟩ := r.get h2
 have hl := r.length
 have hn := qa7r
 have fin : EP X pins σ Q w s := ⟨z, H, I, rw', q⟩
 by_cases h0 : 0 <= i
 ·have hj : i.toNat = j := by
   rw [seqIndex_of h0 h5] at h1
   exact Option.some.inj h1
  exact item_listR pl.isList h0 (by omega) (by rw [hj]; simpa using ew) fin hs
 ·have hj : (i + (its.toArray.size : Int)).toNat = j := by
   rw [seqIndex_neg (by omega) h4] at h1
   rw [List.size_toArray, ← hl]
   exact Option.some.inj h1
  exact subscriptTail_builtinR (x := w) pl.isList.typeIs slot_list_getitem.lookup
   (wpAny_getItem_list_neg (Q := fun r s' => r = w /\ EP X pins σ Q r s') pl.isList (by omega) (by rw [List.size_toArray] <;> omega) (by omega) (by rw [hj]; simpa using ew) ⟨rfl, fin⟩) hs
theorem ix_tup : IxR X (rIxT X.K) := by
 intro value slice pins s σ H x y v u Q I rx ry h hs
 obtain ⟨p, xs, i, z, rfl, rfl, hq, he, q⟩ := h
 cases rx
 obtain ⟨t, rfl⟩ := ry
 obtain ⟨its, r, pl, hz⟩ := I.tuple hq
 obtain ⟨j, h1, h2, h3, h4, h5⟩ := qc4f he
 obtain ⟨w, ew, rw'⟩ := r.get h2
 have hl := r.length
 have hn := qa7r
 have fin : EP X pins σ Q w s := ⟨z, H, I, rw', q⟩
 exact subscriptTail_builtinR (x := w) pl.typeIs slot_tuple_getitem.lookup
  (getItem_tuple (j := j) (Q := fun r s' => r = w /\ EP X pins σ Q r s') pl (by omega) (by omega) (by rw [List.size_toArray, ← hl]; exact h1) (by simpa using ew) ⟨rfl, fin⟩) hs
theorem ix_str : IxR X rIxS := by
 intro value slice pins s σ H x y v u Q I rx ry h hs
 obtain ⟨z, i, c, rfl, rfl, hz, he, q⟩ := h
 obtain ⟨t, rfl⟩ := rx
 obtain ⟨t', rfl⟩ := ry
 obtain ⟨j, h1, h2, h3, h4, h5⟩ := qc4f he
 have hl : z.cps.toList.length = z.length := by simp [Str.length]
 rw [hl] at h1 h4 h5
 have hn := qa7r
 exact tail_any (typeIs_str s z t) slot_str_getitem.lookup (getItem_str (c := c) (by
  have e1 : decide (i < -(2 ^ 63 : Int)) = false := decide_eq_false (by omega)
  have e2 : decide (i ≥ 2 ^ 63) = false := decide_eq_false (by omega)
  rw [e1, e2, Bool.or_false]) (by rw [h1]; simpa using h2) ⟨.str ⟨#[c]⟩, H, I.tok _, ⟨_, rfl⟩, q⟩) hs
noncomputable def rIx (K : PySem.W.Frag) : R2 := fun x y H Q => rIxL K x y H Q ∨ rIxT K x y H Q ∨ rIxS x y H Q
theorem qa0n : IxR X (rIx X.K) := qb4h.or (ix_tup.or ix_str)
theorem qe0u (its : List Value) (n j : Nat) (u : Value) : Obj.mapSeq (·.setIfInBounds j u) { cls := .type "list", data := .seq its.toArray n } = { cls := .type "list", data := .seq (its.set j u).toArray n } := by
 simp [Obj.mapSeq]
theorem Inv.lst {pins : List (Addr × Obj)} {σ : St} {H : Hp} {s : Shared} {p : Addr} {xs : List V} (I : Inv X pins σ H s) (h : H p = some (.lst xs)) :
  ∃ (its : List Value) (n : Nat), Vals xs its /\ s.heap.get? p = some { cls := .type "list", data := .seq its.toArray n } /\ xs.length <= sizeLine := by
 obtain ⟨z, its, n, r, e⟩ := I.hok p _ h
 exact ⟨its, n, r, e, z⟩
theorem Inv.lstUpd {pins : List (Addr × Obj)} {σ : St} {H : Hp} {s : Shared} {p : Addr} {xs ys : List V} {its its' : List Value} {n n' : Nat} {f : Obj -> Obj} (I : Inv X pins σ H s) (h : H p = some (.lst xs))
  (ho : s.heap.get? p = some { cls := .type "list", data := .seq its.toArray n }) (hf : f { cls := .type "list", data := .seq its.toArray n } = { cls := .type "list", data := .seq its'.toArray n' }) (r : Vals ys its') (hz : ys.length <= sizeLine) (t : Nat) :
  Inv X pins σ (upd H p (.lst ys)) { s with heap := s.heap.update p f, toks := t } := by
 have e : (s.heap.update p f).get? p = some { cls := .type "list", data := .seq its'.toArray n' } := by
  rw [Heap.get?_update_self f ho (by rw [hf] <;> rfl), hf]
 refine I.write (x := p) (e := p) (by rw [h]; trivial) (.inl rfl) (fun b u hb q => (Heap.get?_update_other _ _ (Ne.symm hb)).trans q) ⟨_, e⟩ ?_
 exact ⟨hz, its', n', r, e⟩
noncomputable def rSetL : V -> V -> V -> Hp -> (Hp -> Prop) -> Prop := fun o i v H Q => ∃ p xs k j, o = .ref p /\ i = .int k /\ H p = some (.lst xs) /\ ixN xs.length k = some j /\ Q (upd H p (.lst (xs.set j v)))
theorem set_list : PSet X rSetL := by
 intro pins s σ H o i v ov iv u Q I ro ri rv h
 obtain ⟨p, xs, k, j, rfl, rfl, hp, hj, q⟩ := h
 cases ro
 obtain ⟨t, rfl⟩ := ri
 obtain ⟨its, n, r, ho, hz⟩ := I.lst hp
 obtain ⟨h1, h2, h3, h4⟩ := qd8f hj
 have hl := r.length
 have hn := qa7r
 have I' : Inv X pins σ (upd H p (.lst (xs.set j v))) { s with heap := s.heap.update p (Obj.mapSeq (·.setIfInBounds j u)) } :=
  I.lstUpd hp ho (qe0u its n j u) (r.set rv j) (by rw [List.length_set]; exact hz) s.toks
 by_cases h0 : 0 <= k
 ·have hk : k.toNat = j := by
   rw [seqIndex_of h0 h4] at h1
   exact Option.some.inj h1
  exact PySem.W.ki_setAt ho h0 (by omega) (by rw [List.size_toArray, ← hl]; exact h4) (by rw [hk]; exact ⟨_, I', q⟩)
 ·have hk : (k + (its.toArray.size : Int)).toNat = j := by
   rw [seqIndex_neg (by omega) h3] at h1
   rw [List.size_toArray, ← hl]
   exact Option.some.inj h1
  exact PySem.W.ki_setBack ho (by omega) (by rw [List.size_toArray, ← hl]; exact h3) (by omega) (by rw [hk]; exact ⟨_, I', q⟩)
noncomputable def qa9q : V -> Bool
 | .non => true
 | .bl _ => true
 | .int _ => true
 | .str _ => true
 | _ => false
noncomputable def eqV : V -> V -> Bool
 | .non, .non => true
 | .bl a, .bl b => a == b
 | .bl a, .int b => (if a then 1 else 0) == b
 | .int a, .bl b => a == (if b then 1 else 0)
 | .int a, .int b => a == b
 | .str a, .str b => a == b
 | _, _ => false
theorem eqAt_V {A : Around} {s : Shared} {y x : V} {u v : Value} (ry : RelV y u) (rx : RelV x v) (fy : qa9q y = true) (fx : qa9q x = true) : SeqAt.EqAt A s u v (eqV y x) := by
 cases y with
 | non =>
  cases ry
  cases x with
  | non => cases rx; exact SeqAt.EqAt.same _
  | bl b => cases rx; exact SeqAt.EqAt.none_bool b
  | int b => obtain ⟨t, rfl⟩ := rx; exact SeqAt.EqAt.none_int b t
  | str b => obtain ⟨t, rfl⟩ := rx; exact SeqAt.EqAt.none_str b t
  | _ => exact absurd (show false = true from fx) Bool.false_ne_true
 | bl a =>
  cases ry
  cases x with
  | non => cases rx; exact SeqAt.EqAt.bool_none a
  | bl b => cases rx; exact SeqAt.EqAt.bool_bool a b
  | int b => obtain ⟨t, rfl⟩ := rx; exact SeqAt.EqAt.bool_int a b t
  | str b => obtain ⟨t, rfl⟩ := rx; exact SeqAt.EqAt.bool_str a b t
  | _ => exact absurd (show false = true from fx) Bool.false_ne_true
 | int a =>
  obtain ⟨t', rfl⟩ := ry
  cases x with
  | non => cases rx; exact SeqAt.EqAt.int_none a t'
  | bl b => cases rx; exact SeqAt.EqAt.int_bool a t' b
  | int b => obtain ⟨t, rfl⟩ := rx; exact SeqAt.EqAt.int_int a t' b t
  | str b => obtain ⟨t, rfl⟩ := rx; exact SeqAt.EqAt.int_str a t' b t
  | _ => exact absurd (show false = true from fx) Bool.false_ne_true
 | str a =>
  obtain ⟨t', rfl⟩ := ry
  cases x with
  | non => cases rx; exact SeqAt.EqAt.str_none a t'
  | bl b => cases rx; exact SeqAt.EqAt.str_bool a t' b
  | int b => obtain ⟨t, rfl⟩ := rx; exact SeqAt.EqAt.str_int a t' b t
  | str b => obtain ⟨t, rfl⟩ := rx; exact SeqAt.EqAt.str_str a t' b t
  | _ => exact absurd (show false = true from fx) Bool.false_ne_true
 | _ => exact absurd (show false = true from fy) Bool.false_ne_true
noncomputable def eqU (x : V) (u : Value) : Bool := match u with
 | .none => eqV .non x
 | .bool b => eqV (.bl b) x
 | .int i _ => eqV (.int i) x
 | .str z _ => eqV (.str z) x
 | _ => false
theorem eqU_of {x y : V} {u : Value} (r : RelV y u) (f : qa9q y = true) : eqU x u = eqV y x := by
 cases y with
 | non => cases r; rfl
 | bl b => cases r; rfl
 | int i => obtain ⟨t, rfl⟩ := r; rfl
 | str z => obtain ⟨t, rfl⟩ := r; rfl
 | _ => exact absurd (show false = true from f) Bool.false_ne_true
theorem qb4i {x : V} : ∀ {xs : List V} {us : List Value}, Vals xs us -> xs.all qa9q = true -> us.any (eqU x) = xs.any fun y => eqV y x
 | _, _, .nil, _ => rfl
 | y :: xs, u :: us, .cons r t, f => by
  rw [List.all_cons, Bool.and_eq_true] at f
  rw [List.any_cons, List.any_cons, eqU_of r f.1, qb4i t f.2]
theorem qb1q {A : Around} {s : Shared} {x : V} {v : Value} (rx : RelV x v) (fx : qa9q x = true) : ∀ {xs : List V} {us : List Value}, Vals xs us -> xs.all qa9q = true -> ∀ u ∈ us, SeqAt.EqAt A s u v (eqU x u)
 | _, _, .nil, _ => fun u hu => by cases hu
 | y :: xs, u :: us, .cons r t, f => fun u' hu => by
  rw [List.all_cons, Bool.and_eq_true] at f
  rcases List.mem_cons.mp hu with rfl | hu
  ·rw [eqU_of r f.1]; exact eqAt_V r rx f.1 fx
  ·exact qb1q rx fx t f.2 u' hu
noncomputable def inV (x : V) (xs : List V) : Bool := xs.any fun y => eqV y x
noncomputable def rIn (K : PySem.W.Frag) (neg : Bool) : R2 := fun x y H Q => ∃ p xs, y = .ref p /\ (SqL K H p xs ∨ SqT K H p xs) /\ qa9q x = true /\ xs.all qa9q = true /\ Q (.bl (if neg then !inV x xs else inV x xs)) H
theorem qe3k : OpR X (compareOp .In) (rIn X.K false) := by
 intro pins s σ H x y v u Q I rx ry h
 obtain ⟨p, xs, rfl, hq, fx, fs, q⟩ := h
 cases ry
 rcases hq with hq | hq
 ·obtain ⟨its, r, pl, hz⟩ := I.list hq
  refine SeqAt.in_listAt (eqU x) pl.isList (fun w hw => qb1q rx fx r fs w (by simpa using hw)) ⟨.bl _, H, I, rfl, ?_⟩
  rw [show its.toArray.any (eqU x) = its.any (eqU x) by simp, qb4i r fs]
  exact q
 ·obtain ⟨its, r, pl, hz⟩ := I.tuple hq
  refine SeqAt.in_tupleAt (eqU x) pl (fun w hw => qb1q rx fx r fs w (by simpa using hw)) ⟨.bl _, H, I, rfl, ?_⟩
  rw [show its.toArray.any (eqU x) = its.any (eqU x) by simp, qb4i r fs]
  exact q
theorem qc8j : OpR X (compareOp .NotIn) (rIn X.K true) := by
 intro pins s σ H x y v u Q I rx ry h
 obtain ⟨p, xs, rfl, hq, fx, fs, q⟩ := h
 cases ry
 rcases hq with hq | hq
 ·obtain ⟨its, r, pl, hz⟩ := I.list hq
  refine SeqAt.notIn_listAt (eqU x) pl.isList (fun w hw => qb1q rx fx r fs w (by simpa using hw)) ⟨.bl _, H, I, rfl, ?_⟩
  rw [show its.toArray.any (eqU x) = its.any (eqU x) by simp, qb4i r fs]
  exact q
 ·obtain ⟨its, r, pl, hz⟩ := I.tuple hq
  refine SeqAt.notIn_tupleAt (eqU x) pl (fun w hw => qb1q rx fx r fs w (by simpa using hw)) ⟨.bl _, H, I, rfl, ?_⟩
  rw [show its.toArray.any (eqU x) = its.any (eqU x) by simp, qb4i r fs]
  exact q
theorem qc8k : OpR X (compareOp .NotIn) (fun x y H Q => ∃ i j, x = .str i /\ y = .str j /\ Q (.bl (!(!(Builtin.Str.occurrences j i 0 j.length 1).isEmpty))) H) := by
 intro pins s σ H x y v u Q I rx ry h
 obtain ⟨i, j, rfl, rfl, q⟩ := h
 obtain ⟨t, rfl⟩ := rx
 obtain ⟨t', rfl⟩ := ry
 exact notIn_str ⟨.bl _, H, I, rfl, q⟩
theorem qa7t : qa3z X (.builtin "len") (fun xs H Q => ∃ p ys, xs = [.ref p] /\ (SqL X.K H p ys ∨ SqT X.K H p ys) /\ Q (.int ys.length) H) := by
 intro pins s σ H xs us Q I r h
 obtain ⟨p, ys, rfl, hq, q⟩ := h
 obtain ⟨u, rfl, rx⟩ := vals1 r
 cases rx
 have hn := qa7r
 rcases hq with hq | hq
 ·obtain ⟨its, r', pl, hz⟩ := I.list hq
  have hlen := r'.length
  exact Calls.call_len_list pl.isList (by simp only [List.size_toArray] <;> omega) ⟨.int ys.length, H, I.tok _, ⟨s.toks + 1, by rw [List.size_toArray, hlen]⟩, q⟩
 ·obtain ⟨its, r', pl, hz⟩ := I.tuple hq
  have hlen := r'.length
  exact len_tuple pl (by simp only [List.size_toArray] <;> omega) ⟨.int ys.length, H, I.tok _, ⟨s.toks + 1, by rw [List.size_toArray, hlen]⟩, q⟩
theorem qc8l : qa3z X (.builtin "len") (fun xs H Q => ∃ z, xs = [.str z] /\ z.length <= sizeLine /\ Q (.int z.length) H) := by
 intro pins s σ H xs us Q I r h
 obtain ⟨z, rfl, hz, q⟩ := h
 obtain ⟨u, rfl, t, rfl⟩ := vals1 r
 have hn := qa7r
 exact len_str (by omega) ⟨.int z.length, H, I.tok _, ⟨_, rfl⟩, q⟩
theorem qa3z.or {f : Value} {r r' : List V -> Hp -> VK -> Prop} (h : qa3z X f r) (h' : qa3z X f r') : qa3z X f (fun xs H Q => r xs H Q ∨ r' xs H Q) := by
 intro pins s σ H xs us Q I rs q
 rcases q with q | q
 ·exact h pins s σ H xs us Q I rs q
 ·exact h' pins s σ H xs us Q I rs q
theorem qb8c : qa3z X (.type "list") (fun xs H Q => ∃ p ys, xs = [.ref p] /\ (SqL X.K H p ys ∨ SqT X.K H p ys) /\ ∀ l, H l = none -> Q (.ref l) (upd H l (.lst ys))) := by
 intro pins s σ H xs us Q I r h
 obtain ⟨p, ys, rfl, hq, q⟩ := h
 obtain ⟨u, rfl, rx⟩ := vals1 r
 cases rx
 have fin : ∀ (its : List Value), Vals ys its -> ys.length <= sizeLine -> ∀ (h' : Heap) (c' : Nat), (∀ b o', s.heap.get? b = some o' -> h'.get? b = some o') ->
   h'.get? s.heap.objs.size = some { cls := .type "list", dict := none, data := .seq its.toArray c', slots := #[] } -> EP X pins σ Q (.ref s.heap.objs.size) { s with heap := h' } := fun its r' hz h' c' kp e =>
  ⟨.ref s.heap.objs.size, _, I.laid (t' := s.toks) kp (Nat.le_refl _) (show qa3s X.prog X.w _ h' _ (.lst ys) from ⟨hz, its, c', r', e⟩), rfl, q _ (I.hok.fresh (Nat.le_refl _))⟩
 rcases hq with hq | hq
 ·obtain ⟨its, r', pl, hz⟩ := I.list hq
  have hlen := r'.length
  obtain ⟨o, ho, hc, n, hd⟩ := pl.isList
  exact call_list_seq p (.inl rfl) ho hc hd (fun h' c' kp e => fin its r' hz h' c' kp e) (by simp only [List.size_toArray] <;> omega)
 ·obtain ⟨its, r', pl, hz⟩ := I.tuple hq
  have hlen := r'.length
  obtain ⟨o, ho, hc, n, hd⟩ := pl
  exact call_list_seq p (.inr rfl) ho hc hd (fun h' c' kp e => fin its r' hz h' c' kp e) (by simp only [List.size_toArray] <;> omega)
noncomputable def tyV (K : PySem.W.Frag) (T : String) (x : V) (H : Hp) : Prop := match x with
 | .str _ => T = "str"
 | .int _ => T = "int"
 | .ref p => (T = "list" /\ ∃ xs, SqL K H p xs) ∨ (T = "tuple" /\ ∃ o, K.lookup p = some o /\ o.cls = .type "tuple" /\ o.dict = none) ∨
   (T = "dict" /\ ((∃ kvs, H p = some (.dK kvs)) ∨ ∃ kvs, H p = some (.dT kvs))) ∨ (T = "set" /\ ∃ S n, H p = some (.set S n))
 | _ => False
theorem tyV_is {pins : List (Addr × Obj)} {σ : St} {H : Hp} {s : Shared} {T : String} {x : V} {v : Value} (I : Inv X pins σ H s) (r : RelV x v) (ty : tyV X.K T x H) :
  s.TypeIs v T /\ ∀ a, v = .ref a -> ∃ ob, s.heap.get? a = some ob /\ ob.dict = none := by
 cases x with
 | str z =>
  obtain ⟨t, rfl⟩ := r
  cases (show T = "str" from ty)
  exact ⟨typeIs_str s z t, fun _ e => nomatch e⟩
 | int i =>
  obtain ⟨t, rfl⟩ := r
  cases (show T = "int" from ty)
  exact ⟨typeIs_int s i t, fun _ e => nomatch e⟩
 | ref p =>
  cases r
  rcases ty with ⟨rfl, xs, hq⟩ | ⟨rfl, o, hk, hc, hd⟩ | ⟨rfl, hk⟩ | ⟨rfl, S, n, hk⟩
  ·obtain ⟨its, _, pl, _⟩ := I.list hq
   refine ⟨pl.isList.typeIs, fun a e => ?_⟩
   cases e
   obtain ⟨o, n, e, c, hd, _⟩ := pl
   exact ⟨o, e, hd⟩
  ·refine ⟨⟨o, I.kIn p o hk, hc⟩, fun a e => ?_⟩
   cases e
   exact ⟨o, I.kIn _ o hk, hd⟩
  ·have z : ∃ o, s.heap.get? p = some o /\ o.ExactDict := by
    rcases hk with ⟨kvs, hk⟩ | ⟨kvs, hk⟩
    ·obtain ⟨_, _, _, _, o, _, _, e, ex, _⟩ := I.hok p _ hk
     exact ⟨o, e, ex⟩
    ·obtain ⟨_, _, _, _, o, _, _, e, ex, _⟩ := I.hok p _ hk
     exact ⟨o, e, ex⟩
   obtain ⟨o, e, ex⟩ := z
   refine ⟨⟨o, e, ex.1⟩, fun a e2 => ?_⟩
   cases e2
   exact ⟨o, e, ex.2.1⟩
  ·obtain ⟨o, _, _, _, e, ex, _⟩ := I.hok p _ hk
   refine ⟨⟨o, e, ex.1⟩, fun a e2 => ?_⟩
   cases e2
   exact ⟨o, e, ex.2.1⟩
 | _ => exact False.elim ty
noncomputable def tBM0 (K : PySem.W.Frag) (T : String) (r : V -> List V -> Hp -> VK -> Prop) (to : TE) : TE := fun σ H Q => to σ H fun x H1 => tyV K T x H1 /\ r x [] H1 Q
noncomputable def tBM (K : PySem.W.Frag) (T : String) (r : V -> List V -> Hp -> VK -> Prop) (to : TE) (t : TA) : TE := fun σ H Q => to σ H fun x H1 => tyV K T x H1 /\ t σ H1 fun xs H2 => r x xs H2 Q
variable {o e : Expr} {es : List Expr} {to : TE} {t : TA} {name : Str} {apos cpos : Pos} {T id : String} {r : V -> List V -> Hp -> VK -> Prop}
theorem pe_bm0 (pa : PlainAttrs T) (slot : Slot T name id) (hty : typeOf (.builtin id) = pure (.type "method_descriptor")) (hm : MtR X id r) (ho : PE X o to)
  (hbase : attributeBase o name X.env (eval o X.env) = eval o X.env := by rfl) (hline : (apos.endLine == cpos.line) = true := by rfl) : PE X (.Call (.Attribute o name apos) [] [] cpos) (tBM0 X.K T r to) := by
 intro pins s σ H Q I h
 refine wpAny_Call_method0_late hbase hline (thn (ho pins s σ H _ I h) fun v s1 ⟨x, H1, I1, r1, ty, q1⟩ => ?_)
 obtain ⟨h1, h2⟩ := tyV_is I1 r1 ty
 exact ⟨T, id, pa, slot, hty, h1, h2, Calls.callWith_builtin rfl (PySem.evalArgs_none (hm pins s1 σ H1 x [] v [] Q I1 r1 .nil q1))⟩
theorem pe_bm (pa : PlainAttrs T) (slot : Slot T name id) (hty : typeOf (.builtin id) = pure (.type "method_descriptor")) (hm : MtR X id r) (ho : PE X o to) (ha : PA X (e :: es) t)
  (hbase : attributeBase o name X.env (eval o X.env) = eval o X.env := by rfl)
  (hfew : ((backTo cpos (starEach (e :: es) X.env)).all (fun x => !x.1) && (backToKw cpos (keywordEach [] X.env)).all (fun x => x.1.isSome)
   && decide ((e :: es).length + ([] : List Keyword).length + (if ([] : List Keyword).isEmpty then 0 else 1) < 30)) = true := by rfl)
  (hline : (apos.endLine == cpos.line) = true := by rfl) (hs : starEach (e :: es) X.env = (false, eval e X.env) :: starEach es X.env := by rfl) (hplain : (backTo cpos (starEach es X.env)).any (·.1) = false := by rfl) :
  PE X (.Call (.Attribute o name apos) (e :: es) [] cpos) (tBM X.K T r to t) := by
 intro pins s σ H Q I h
 refine wpAny_Call_method_late hbase hfew hline rfl (thn (ho pins s σ H _ I h) fun v s1 ⟨x, H1, I1, r1, ty, q1⟩ => ?_)
 obtain ⟨h1, h2⟩ := tyV_is I1 r1 ty
 refine ⟨T, id, pa, slot, hty, h1, h2, ?_⟩
 have hA := ha cpos pins s1 σ H1 _ I1 q1
 rw [hs] at hA ⊢
 refine Calls.callWith_builtin (by show (false || (backTo cpos (starEach es X.env)).any (·.1)) = false; rw [hplain] <;> rfl) (Calls.evalArgs_plain ?_)
 exact thn hA fun us s2 ⟨vs, H2, I2, r2, q2⟩ => hm pins s2 σ H2 x vs v us Q I2 r1 r2 q2
end
end L2
namespace L2
open PySem PySem.Spec PyProof.Rows
noncomputable def MtM (X : Cx) (id : String) (r : V -> List V -> Hp -> VK -> Prop) : Prop :=
 ∀ (pins : List (Addr × Obj)) (s : Shared) (σ : St) (H : Hp) (x : V) (xs : List V) (v : Value) (us : List Value) (Q : VK), Inv X pins σ H s -> RelV x v -> Vals xs us -> r x xs H Q ->
  wpAny (model X.prog X.w) X.A (call (.builtin id) (v :: us)) (EP X pins σ Q) X.xe s
theorem Vals.one {x : V} {us : List Value} (h : Vals [x] us) : ∃ u, us = [u] /\ RelV x u := by
 cases h with | cons r t => cases t; exact ⟨_, rfl, r⟩
theorem Vals.two {x y : V} {us : List Value} (h : Vals [x, y] us) : ∃ u v, us = [u, v] /\ RelV x u /\ RelV y v := by
 cases h with | cons r t => obtain ⟨_, rfl, q⟩ := Vals.one t; exact ⟨_, _, rfl, r, q⟩
theorem Vals.zero : ∀ {us : List Value}, Vals [] us -> us = []
 | _, .nil => rfl
theorem Vals.dropLast {xs : List V} {us : List Value} (h : Vals xs us) : Vals xs.dropLast us.dropLast := by
 induction h with
 | nil => exact .nil
 | cons r t ih =>
  cases t with
  | nil => exact .nil
  | cons q t' => exact .cons r ih
theorem Vals.reverse {xs : List V} {us : List Value} (h : Vals xs us) : Vals xs.reverse us.reverse := by
 induction h with
 | nil => exact .nil
 | cons r t ih => rw [List.reverse_cons, List.reverse_cons]; exact Vals.append ih (.cons r .nil)
theorem Vals.rep {xs : List V} {us : List Value} (h : Vals xs us) : ∀ k : Nat, Vals (List.replicate k xs).flatten (List.replicate k us).flatten
 | 0 => .nil
 | k + 1 => by
  rw [List.replicate_succ, List.replicate_succ, List.flatten_cons, List.flatten_cons]
  exact Vals.append h (Vals.rep h k)
theorem qe0v {α : Type} (l : List α) : l.eraseIdx (l.length - 1) = l.dropLast := by
 induction l with
 | nil => rfl
 | cons a r ih =>
  cases r with
  | nil => rfl
  | cons b r =>
   have e : (a :: b :: r).length - 1 = ((b :: r).length - 1) + 1 := by
    have h1 : (a :: b :: r).length = r.length + 2 := rfl
    have h2 : (b :: r).length = r.length + 1 := rfl
    omega
   rw [e, List.eraseIdx_cons_succ, ih]
   all_goals rfl
theorem foldl_rep (its : List Value) : ∀ (k : Nat) (acc : List Value),
  List.foldl (fun x1 x2 => x1 ++ x2) acc.toArray (List.replicate k its.toArray) = (acc ++ (List.replicate k its).flatten).toArray
 | 0, acc => by simp
 | k + 1, acc => by
  have e : acc.toArray ++ its.toArray = (acc ++ its).toArray := by simp
  have e2 : (acc ++ its) ++ (List.replicate k its).flatten = acc ++ (List.replicate (k + 1) its).flatten := by
   rw [List.replicate_succ, List.flatten_cons, List.append_assoc]
  rw [← e2, ← foldl_rep its k (acc ++ its), ← e, List.replicate_succ, List.foldl_cons]
section
variable {X : Cx} {pins : List (Addr × Obj)} {σ : St} {H : Hp} {s : Shared} {l b : Addr} {xs ys zs : List V}
theorem Inv.lset {its its' : List Value} {n : Nat} {f : Array Value -> Array Value} {t' : Nat} (I : Inv X pins σ H s) (hH : H l = some (.lst xs))
  (e : s.heap.get? l = some { cls := .type "list", data := .seq its.toArray n }) (hf : f its.toArray = its'.toArray) (hv : Vals ys its') (hz : ys.length <= sizeLine) :
  Inv X pins σ (upd H l (.lst ys)) { s with heap := s.heap.update l (Obj.mapSeq f), toks := t' } := by
 have q := PySem.IsL.update e f
 rw [hf] at q
 refine I.write (x := l) (e := l) (by rw [hH]; exact trivial) (.inl rfl) (fun b' u hb hu => (Heap.get?_update_other s.heap (Obj.mapSeq f) (Ne.symm hb)).trans hu) ⟨_, q⟩ ?_
 exact ⟨hz, its', _, hv, q⟩
theorem Inv.lnew {its : List Value} {t' : Nat} (I : Inv X pins σ H s) (hv : Vals ys its) (hz : ys.length <= sizeLine) :
  Inv X pins σ (upd H s.heap.objs.size (.lst ys)) { s with heap := s.heap.push { cls := .type "list", data := .seq its.toArray }, toks := t' } :=
 I.laid (fun _ _ q => Heap.get?_push_of_some _ q) (Nat.le_refl _) ⟨hz, its, 0, hv, Heap.get?_push_size _ rfl⟩
theorem Inv.fresh (I : Inv X pins σ H s) : H s.heap.objs.size = none := I.hok.fresh (Nat.le_refl _)
theorem Inv.lstM (I : Inv X pins σ H s) (hH : H l = some (.lst xs)) : xs.length <= sizeLine /\ ∃ (its : List Value) (n : Nat), Vals xs its /\ xs.length = its.length /\ s.heap.get? l = some { cls := .type "list", data := .seq its.toArray n } := by
 obtain ⟨z, its, n, r, e⟩ := I.hok l _ hH
 exact ⟨z, its, n, r, r.length, e⟩
theorem qc8m {n : Nat} (h : n <= sizeLine) : Builtin.List.listTooLong n = false := by
 unfold Builtin.List.listTooLong
 exact decide_eq_false (by omega)
end
section
variable {X : Cx}
noncomputable def qd8g : V -> List V -> Hp -> VK -> Prop := fun x vs H Q => ∃ l xs y, x = .ref l /\ vs = [y] /\ H l = some (.lst xs) /\ xs.length < sizeLine /\ Q .non (upd H l (.lst (xs ++ [y])))
theorem qc6j : MtM X "list.append" qd8g := by
 intro pins s σ H x vs v us Q I rx rv h
 obtain ⟨l, xs, y, rfl, rfl, hH, hz, q⟩ := h
 cases rx
 obtain ⟨u, rfl, ru⟩ := rv.one
 obtain ⟨z, its, n, r, hl, e⟩ := I.lstM hH
 refine call_meets F.slot_list_append ⟨_, e, rfl⟩ F.entry_list_append (F.args_list_append_2 _ _) (PySem.list_append l its.toArray n u (by rw [List.size_toArray]; omega)) ⟨e, ?_⟩
 refine ⟨.non, _, I.lset (its' := its ++ [u]) hH e (by simp) (r.append (.cons ru .nil)) ?_, rfl, q⟩
 rw [List.length_append, List.length_singleton]
 omega
noncomputable def rPop : V -> List V -> Hp -> VK -> Prop := fun x vs H Q => ∃ l xs y, x = .ref l /\ vs = [] /\ H l = some (.lst xs) /\ xs[xs.length - 1]? = some y /\ Q y (upd H l (.lst xs.dropLast))
theorem mt_pop : MtM X "list.pop" rPop := by
 intro pins s σ H x vs v us Q I rx rv h
 obtain ⟨l, xs, y, rfl, rfl, hH, hy, q⟩ := h
 cases rx
 have hus := rv.zero
 subst hus
 obtain ⟨z, its, n, r, hl, e⟩ := I.lstM hH
 obtain ⟨u, hu, ru⟩ := r.get hy
 have hy' : its.toArray[its.toArray.size - 1]? = some u := by
  show its.toArray[its.length - 1]? = some u
  rw [← Array.getElem?_toList, ← hl]
  exact hu
 refine call_meets F.slot_list_pop ⟨_, e, rfl⟩ F.entry_list_pop (F.args_list_pop_1 _) (MeetsSeq.list_pop_last l its.toArray n u hy' (by rw [List.size_toArray]; omega)) ⟨e, ?_⟩
 refine ⟨y, _, I.lset (its' := its.dropLast) hH e ?_ r.dropLast ?_, ru, q⟩
 ·show its.toArray.eraseIdxIfInBounds (its.toArray.size - 1) = its.dropLast.toArray
  rw [List.size_toArray, List.eraseIdxIfInBounds_toArray, qe0v]
 ·rw [List.length_dropLast]
  omega
noncomputable def qc8n : V -> List V -> Hp -> VK -> Prop := fun x vs H Q => ∃ l xs, x = .ref l /\ vs = [] /\ H l = some (.lst xs) /\ Q .non (upd H l (.lst xs.reverse))
theorem qe0w : MtM X "list.reverse" qc8n := by
 intro pins s σ H x vs v us Q I rx rv h
 obtain ⟨l, xs, rfl, rfl, hH, q⟩ := h
 cases rx
 have hus := rv.zero
 subst hus
 obtain ⟨z, its, n, r, hl, e⟩ := I.lstM hH
 refine call_meets F.slot_list_reverse ⟨_, e, rfl⟩ F.entry_list_reverse (F.args_list_reverse_1 _) (AutoSeq1.list_reverse_list_0 l its.toArray n (by rw [List.size_toArray]; omega)) ⟨e, ?_⟩
 refine ⟨.non, _, I.lset (its' := its.reverse) hH e (by simp) r.reverse ?_, rfl, q⟩
 rw [List.length_reverse]
 omega
noncomputable def rCat : R2 := fun x y H Q => ∃ l b xs zs, x = .ref l /\ y = .ref b /\ H l = some (.lst xs) /\ H b = some (.lst zs) /\ xs.length + zs.length <= sizeLine /\ ∀ p, H p = none -> Q (.ref p) (upd H p (.lst (xs ++ zs)))
theorem qc8o : OpR X (binaryOp .Add) rCat := by
 intro pins s σ H x y v u Q I rx ry h
 obtain ⟨l, b, xs, zs, rfl, rfl, hH, hB, hz, q⟩ := h
 cases rx
 cases ry
 obtain ⟨z, its, n, r, hl, e⟩ := I.lstM hH
 obtain ⟨z2, its2, n2, r2, hl2, e2⟩ := I.lstM hB
 refine PySem.P.add_list e e2 ?_ (by rw [List.size_toArray, List.size_toArray]; omega)
 have ea : its.toArray ++ its2.toArray = (its ++ its2).toArray := by simp
 rw [ea]
 exact ⟨.ref _, _, I.lnew (t' := s.toks) (r.append r2) (by rw [List.length_append]; omega), rfl, q _ I.fresh⟩
noncomputable def rRep : R2 := fun x y H Q => ∃ l k xs, x = .ref l /\ y = .int k /\ H l = some (.lst xs) /\ -(2 ^ 63) <= k /\ k < 2 ^ 63 /\ xs.length * k.toNat <= sizeLine /\
 ∀ p, H p = none -> Q (.ref p) (upd H p (.lst (List.replicate k.toNat xs).flatten))
theorem len_rep {α : Type} (xs : List α) (k : Nat) : (List.replicate k xs).flatten.length = k * xs.length := by
 induction k with
 | zero => simp
 | succ k ih => rw [List.replicate_succ, List.flatten_cons, List.length_append, ih, Nat.succ_mul, Nat.add_comm]
theorem op_rep : OpR X (binaryOp .Mult) rRep := by
 intro pins s σ H x y v u Q I rx ry h
 obtain ⟨l, k, xs, rfl, rfl, hH, h1, h2, hz, q⟩ := h
 cases rx
 obtain ⟨t, rfl⟩ := ry
 obtain ⟨z, its, n, r, hl, e⟩ := I.lstM hH
 have hlen : its.toArray.size * k.toNat <= sizeLine := by rw [List.size_toArray, ← hl]; exact hz
 have hcap : ¬ its.toArray.size * k.toNat > (2 ^ 63 - 1) / 8 := by
  have : (sizeLine : Nat) <= (2 ^ 63 - 1) / 8 := by decide
  omega
 have hfit : ¬ (!Builtin.List.listFitsIndex k) = true := by
  rw [fitsIndex_both h1 h2]
  exact Bool.false_ne_true
 have hlong : ¬ Builtin.List.listTooLong (its.toArray.size * k.toNat) = true := by
  rw [qc8m hlen]
  exact Bool.false_ne_true
 have hnew : List.foldl (fun x1 x2 => x1 ++ x2) #[] (List.replicate (if its.toArray.isEmpty = true then 0 else k.toNat) its.toArray) = (List.replicate k.toNat its).flatten.toArray := by
  have f0 : ∀ m : Nat, List.foldl (fun x1 x2 => x1 ++ x2) #[] (List.replicate m its.toArray) = (List.replicate m its).flatten.toArray := fun m => by
   have := foldl_rep its m []
   rw [List.nil_append] at this
   exact this
  rw [f0]
  cases its with
  | nil => simp
  | cons a r' => rw [if_neg (by simp)]
 refine wpAny_binaryOp_repeat_ref (T := "list") (U := "int") (by decide) ⟨_, e, rfl⟩ (fun s' => typeIs_int s' k t) noFill_list_mul F.fills_int_mul F.slot_int_rmul repeat_list F.slot_int_index.lookup
  (call_meets F.slot_int_rmul (typeIs_int s k t) F.entry_int_rmul (F.args_int_rmul_2 _ _) (int___rmul___int_list k t l its.toArray n)
   ⟨e, rfl, ⟨_, e, rfl⟩, call_meets F.slot_list_mul ⟨_, e, rfl⟩ F.entry_list_mul (F.args_list_mul_2 _ _) (AutoListH.list___mul___list_int_3 l its.toArray n k t hfit hcap hlong) ⟨e, ?_⟩⟩)
 rw [hnew]
 exact ⟨.ref _, _, I.lnew (t' := s.toks) (r.rep k.toNat) (by rw [len_rep, Nat.mul_comm]; exact hz), rfl, q _ I.fresh⟩
end
section
variable {prog : Program} {w : World} {A : Around} {E : Value -> Shared -> Prop} {s : Shared}
set_option maxRecDepth 100000 in
end
section
variable {X : Cx}
end
end L2
namespace Att
open PySem PySem.W PySem.Calls PyProof.Rows
theorem qc2q {P : Params} {h : Heap} : ∀ (ns : List Int) (vs : List Value), WellAll P h vs (ns.map WData.int) -> IntsAre vs ns := by
 intro ns
 induction ns with
 | nil =>
  intro vs w
  rw [List.map_nil] at w
  cases w
  exact .nil
 | cons n ns ih =>
  intro vs w
  rw [List.map_cons] at w
  cases w with
  | cons a b =>
   cases a
   exact .cons _ _ (ih _ b)
theorem qe3l {l : OpenLaw} {n : Nat} (hn : l.most = some n) {P : Params} {h : Heap} {args : List WData} {vals : List Value}
  (hpre : l.row.toRowW.claim.pre args = true) (hwl : WellAll P h vals args) :
  ∃ a vs ns, vals = [Value.ref a] /\ args = [WData.list (ns.map WData.int)] /\ h.get? a = some { cls := .type "list", data := .seq vs.toArray } /\ IntsAre vs ns /\ ns.length <= n := by
 have hsh : WShape.hasAll [] args [.list .int] = true := (pre_splitW hpre).1
 have hc : l.pre.holds [] { args := args } = true := (pre_splitW hpre).2
 obtain ⟨d, r, rfl, h1, h2⟩ := hasAllW_cons hsh
 obtain rfl := hasAllW_nil h2
 obtain ⟨xs, rfl, h3⟩ := hasW_list h1
 obtain ⟨ns, rfl⟩ := items_int h3
 have hlen : ns.length <= n := by
  unfold OpenLaw.pre at hc
  have h4 : (WTm.not (.lt (.lit (.int (n : Int))) (.len (.arg 0)))).holds [] { args := [.list (ns.map .int)] } = true := by
   have h4 := (holds_andW hc).1
   rw [hn] at h4
   exact h4
  have h5 := condW_of h4 (w_not (w_lt w_lit (w_len_list (w_arg rfl))))
  rw [List.length_map] at h5
  refine Nat.le_of_not_lt fun q => ?_
  have q' : (n : Int) < ((ns.length : Nat) : Int) := by omega
  first
   | (rw [decide_eq_true q'] at h5; exact absurd h5 (by decide))
   | (simp at h5; omega)
 cases hwl with
 | cons w1 w2 =>
  cases w2
  cases w1 with
  | list ho hall => exact ⟨_, _, ns, rfl, rfl, ho, qc2q ns _ hall, hlen⟩
theorem qe3m (l : OpenLaw) (args : List WData) : l.row.toRowW.claim.post args (.bool true) args = true :=
 postW_of (r := l.row.toRowW) (X := (true == true))
  (show WShape.has [] (.bool true) .bool = true by first | rfl | decide | simp [WShape.has, WShape.arms, WShape.armsAll])
  (show (WTm.eq .res (.lit (.bool true))).value [] { args := args, res := some (.bool true), after := args } = some (.bool (true == true)) from w_eq_bool (w_res rfl) w_lit) rfl
theorem attach_call {l : OpenLaw} {n : Nat} {q : Program} {loose : List Str} {XP : (Str -> Option Value) -> Heap -> Prop} {YP : World -> Heap -> Prop} {d : DefRec}
  (hn : l.most = some n) (hdf : d.params.defaults = [])
  (call : ∀ (w : World) (s₀ s₁ : Shared) (mg mb : Str -> Option Value) (fa : Addr) (o : Obj) (pm cd doc : Value) (a : Addr) (vs : List Value) (ns : List Int),
   Ground q loose [] XP w s₀ mg mb s₁.heap -> YP w s₁.heap ->
   s₁.heap.get? fa = some o -> o.data = .func (docDef d.name d.params d.body d.scope pm cd doc) -> s₁.heap.CodeRec cd d.name -> mg d.name = some (.ref fa) ->
   s₁.heap.get? a = some { cls := .type "list", data := .seq vs.toArray } -> IntsAre vs ns -> ns.length <= n -> s₁.gens = #[] ->
   codeAny (model l.prog w) callerA (.call (.ref fa) ⟨[.ref a], []⟩) (fun r s' => r = .ok (.ret (.bool true)) /\ OldK s₁.heap s'.heap /\ s'.os = s₁.os /\ AllBare s'.gens) s₁) :
  WalkO q loose XP YP l.row.toRowW d [] (fun f vs => PySem.call f vs) := by
 intro w s₀ s₁ mg mb G Y fa o pm cd doc dV kV ho hd hcd hD hmg hg args vals as hpre hlay hrd hwl hlo
 obtain rfl : dV = .none := Dflts.none hD hdf
 obtain rfl : kV = .none := Dflts.noKw hD
 obtain ⟨a, vs, ns, rfl, rfl, hobj, hints, hlen⟩ := qe3l hn hpre hwl
 refine enter_call (codeAny_mono (call w s₀ s₁ mg mb fa o pm cd doc a vs ns G Y ho (fd_plain hd) hcd hmg hobj hints hlen hg) fun r s' hq => ?_)
 obtain ⟨rfl, h2, h3, h4⟩ := hq
 exact ⟨.inl ⟨.bool true, .bool true, [], rfl, fun _ => rfl, .bool true, qe3m l _, fun _ => ⟨List.Pairwise.nil, fun _ hm => (nomatch hm)⟩⟩, h2, h3, h4⟩
section
variable {prog : Program} {w : World} {A : Around} {E : Value -> Shared -> Prop} {s : Shared} {K : Frag}
end
end Att
namespace L2
open PySem PySem.Spec PyProof.Rows
theorem qc6k : ∀ {vs : List Value} {ns : List Int}, IntsAre vs ns -> Vals (ns.map V.int) vs
 | _, _, .nil => .nil
 | _, _, .cons n t h => .cons ⟨t, rfl⟩ (qc6k h)
noncomputable def Only (H : Hp) : Prop := ∀ b, H b = none ∨ ∃ o xs, H b = some (.frz o (.lst xs))
theorem qe5o {P : Program} {w : World} {K : PySem.W.Frag} {mg mb : Str -> Option Value} {CX : CXT} {k : Nat} {fa a : Addr} {fd : FuncData} {x : Str} {sp : Sp} {s₁ : Shared} {vs : List Value} {ns : List Int}
  (KX : K.In s₁.heap) (hns : s₁.heap.Ns mainGlobals mg) (hb : s₁.heap.Ns builtinsNs mb) (hbb : ∀ x : Str, x ≠ "__name__" -> mb x = bootBuiltins x) (hlim : s₁.heap.NoLimit) (hg : s₁.gens = #[])
  (ha : s₁.heap.get? a = some { cls := .type "list", data := .seq vs.toArray }) (hi : IntsAre vs ns) (hl : ns.length <= sizeLine) (hr : Room k callerA)
  (F : ∀ base : Heap, K.In base -> base.Ns mainGlobals mg -> FnOk P w K mg base CX k fa fd [x] sp) (hbind : ∀ (s : Shared) (u : Value), BindsTo s fd ⟨[u], []⟩ [(x, u)])
  (hsp : ∀ H : Hp, Only H -> SqL K H a (ns.map V.int) -> sp [.ref a] H (fun v _ => v = .bl true) fun _ _ _ => False)
  (hCX : ∀ H e s', CX [] H s₁ (fun _ _ _ => False) e s' -> False) :
  codeAny (model P w) callerA (.call (.ref fa) ⟨[.ref a], []⟩) (fun r s' => r = .ok (.ret (.bool true)) /\ OldK s₁.heap s'.heap /\ s'.os = s₁.os /\ AllBare s'.gens) s₁ := by
 have rv := qc6k hi
 have lenV := hi.length
 -- from an abstract heap in which nothing but the script may be tracked
 have core : ∀ H : Hp, Only H -> SqL K H a (ns.map V.int) -> HOk P w H s₁.heap -> (∀ b, H b ≠ none -> b = a) -> (H a ≠ none -> K.lookup a = none) ->
   codeAny (model P w) callerA (.call (.ref fa) ⟨[.ref a], []⟩) (fun r s' => r = .ok (.ret (.bool true)) /\ OldK s₁.heap s'.heap /\ s'.os = s₁.os /\ AllBare s'.gens) s₁ := by
  intro H hO hS hok hA hK
  have base_of : ∀ {b : Addr} {o : Obj}, s₁.heap.get? b = some o -> H b = none -> (hidT s₁.heap H).get? b = some o := fun e n => qe5e e n
  have noA : ∀ {b : Addr} {o : Obj} {es : Array DictEntry} {ep : Nat}, s₁.heap.get? b = some o -> o.data = .dict es ep -> H b = none := fun {b o es ep} e d => by
   cases q : H b with
   | none => rfl
   | some u =>
    have e' : b = a := hA b (by rw [q]; simp)
    subst e'
    rw [ha] at e; cases e
    have d' : Data.seq vs.toArray _ = Data.dict es ep := d
    cases d'
  have nsK : ∀ {b : Addr} {m : Str -> Option Value}, s₁.heap.Ns b m -> (hidT s₁.heap H).Ns b m := fun {b m} ⟨o, es, ep, e, d, r⟩ => ⟨o, es, ep, base_of e (noA e d), d, r⟩
  have hKb : K.In (hidT s₁.heap H) := fun b o e => base_of (KX b o e) (by
   cases q : H b with
   | none => rfl
   | some u =>
    have e' : b = a := hA b (by rw [q]; simp)
    subst e'
    rw [hK (by rw [q]; simp)] at e; cases e)
  have hM : Mod K mg (hidT s₁.heap H) := ⟨hKb, nsK hns, ⟨mb, nsK hb, hbb⟩, let ⟨mc, h1, h2⟩ := hlim; ⟨mc, nsK h1, h2⟩⟩
  have e0 : Env0 P w K mg (hidT s₁.heap H) callerA [] s₁ H := ⟨rfl, hM, fun b o e => of_hidT e, Nat.le_of_eq (qe3d _ _), trivial, fun b hb => absurd (show b ∈ ([] : List Addr) from hb) (by simp), hok, .of_eq hg⟩
  refine codeAny_mono ((F _ hKb (nsK hns)).run callerA [] s₁ H ⟨[.ref a], []⟩ [.ref a] [.ref a] _ _ hr e0 (hbind s₁ (.ref a)) (.cons rfl .nil) (hsp H hO hS)) fun r s' h => ?_
  cases r with
  | error e => exact (hCX H e s' h).elim
  | ok fl =>
   cases fl with
   | next => exact False.elim h
   | brk => exact False.elim h
   | cont => exact False.elim h
   | ret u =>
    obtain ⟨v, H', os, bare, un, hok', r', q⟩ := h
    have q' : v = .bl true := q
    subst q'
    obtain rfl : u = Value.bool true := r'
    refine ⟨rfl, OldK.of_keep fun b o e => ?_, os, bare⟩
    cases q : H b with
    | none => exact un.keep b o e q (by intro z; exact absurd (show b ∈ ([] : List Addr) from z) (by simp)) (by simp)
    | some u =>
     rcases hO b with z | ⟨ob, xs, z⟩
     ·rw [q] at z; cases z
     ·have z2 := un.frzs b ob _ z
      obtain ⟨e1, _⟩ := hok b _ z
      obtain ⟨e2, _⟩ := hok' b _ z2
      rw [e] at e1; cases e1
      exact e2
 cases hk : K.lookup a with
 | some o =>
  -- the script is one of the module's own objects
  have e := KX a o hk
  rw [ha] at e
  cases e
  refine core (fun _ => none) (fun _ => .inl rfl) (.inr ⟨_, vs.toArray, _, hk, rfl, rfl, rfl, by rw [List.size_toArray, lenV]; exact hl, by simpa using rv⟩) (fun b u z => by have z' : (none : Option HO) = some u := z; cases z') (fun b z => absurd rfl z) fun z => absurd rfl z
 | none =>
  refine core (fun b => if b = a then some (.frz { cls := .type "list", data := .seq vs.toArray } (.lst (ns.map V.int))) else none) (fun b => ?_) (.inl (.inr ⟨{ cls := .type "list", data := .seq vs.toArray }, if_pos rfl⟩)) (fun b u z => ?_) (fun b z => ?_) fun _ => hk
  ·by_cases hb : b = a
   ·exact .inr ⟨_, _, if_pos hb⟩
   ·exact .inl (if_neg hb)
  ·by_cases hb : b = a
   ·have z' := (if_pos hb).symm.trans z
    cases z'
    subst hb
    exact ⟨ha, by rw [List.length_map]; exact hl, vs, _, rv, ha⟩
   ·have z' := (if_neg hb).symm.trans z
    cases z'
  ·by_cases hb : b = a
   ·exact hb
   ·exact absurd (if_neg hb) z
end L2
namespace L2
open PySem PySem.Spec PyProof.Rows
theorem walk_of {l : PySem.W.OpenLaw} {n k : Nat} {q : Program} {loose : List Str} {XP : (Str -> Option Value) -> Heap -> Prop} {YP : World -> Heap -> Prop} {d : DefRec} {K : Params -> PySem.W.Frag} {CX : World -> CXT} {sp : World -> Sp} {x : Str}
  (hn : l.most = some n) (hn2 : n <= sizeLine) (hdf : d.params.defaults = []) (hr : Room k callerA)
  (hY : ∀ (w : World) (h : Heap), YP w h -> (K w.params).In h)
  (F : ∀ (w : World) (mg : Str -> Option Value) (fa : Addr) (h : Heap), (K w.params).In h -> h.Ns mainGlobals mg -> mg d.name = some (.ref fa) ->
   ∃ fd : FuncData, (∀ (s : Shared) (u : Value), BindsTo s fd ⟨[u], []⟩ [(x, u)]) /\
    ∀ base : Heap, (K w.params).In base -> base.Ns mainGlobals mg -> FnOk l.prog w (K w.params) mg base (CX w) k fa fd [x] (sp w))
  (hsp : ∀ (w : World) (H : Hp) (a : Addr) (ns : List Int), ns.length <= n -> Only H -> SqL (K w.params) H a (ns.map V.int) -> sp w [.ref a] H (fun v _ => v = .bl true) fun _ _ _ => False)
  (hCX : ∀ (w : World) (H : Hp) (s : Shared) (e : Value) (s' : Shared), CX w [] H s (fun _ _ _ => False) e s' -> False) :
  PySem.W.WalkO q loose XP YP l.row.toRowW d [] (fun f vs => PySem.call f vs) := by
 refine Att.attach_call hn hdf fun w s₀ s₁ mg mb fa o pm cd doc a vs ns G Y ho hd hcd hmg hobj hints hlen hg => ?_
 have KX := hY w _ Y
 obtain ⟨fd, hb, hF⟩ := F w mg fa _ KX G.T.g hmg
 exact qe5o KX G.T.g G.T.b G.T.builtins G.T.nolimit hg hobj hints (Nat.le_trans hlen hn2) hr hF hb (fun H hO hS => hsp w H a ns hlen hO hS) fun H e s' => hCX w H s₁ e s'
end L2
namespace L2
open PySem PySem.Spec PyProof.Rows
noncomputable def qa1b (s : Stmt) : Arguments := match s with
 | .FunctionDef _ a _ _ _ _ _ _ _ _ => a
 | _ => { posonlyargs := [], args := [], vararg := none, kwonlyargs := [], kw_defaults := [], kwarg := none, defaults := [] }
noncomputable def qa0x (s : Stmt) : List Stmt := match s with
 | .FunctionDef _ _ b _ _ _ _ _ _ _ => b
 | _ => []
noncomputable def qa0h (s : Stmt) : Scope := match s with
 | .FunctionDef _ _ _ _ _ _ sc _ _ _ => sc
 | _ => { kind := .function, names := [], isGenerator := false, isCoroutine := false }
noncomputable abbrev CX0 : CXT := fun _ _ _ _ _ _ => False
noncomputable abbrev E0 : XK := fun _ _ _ => False
theorem pass0 {X : Cx} : qc8h CX0 X E0 := fun _ _ _ _ _ _ _ h => h.elim
structure Fun (K : PySem.W.Frag) (x qual : Str) (st : Stmt) (f : Addr) (fd : FuncData) : Prop where
 ex : ∃ (oc : Value) (od : Option Addr) (kV doc pm : Value) (an : Option Addr) (cdv ct : Value) (osl : Array (Option Value)),
  fd = PySem.W.fnOf x qual (qa1b st) (qa0x st) (qa0h st) .none kV doc pm an cdv ct /\ K.lookup f = some ⟨oc, od, .func fd, osl⟩ /\ PySem.W.codeIn K cdv qual = true
 kp : PySem.W.keepIn K (.ref f) = true
section
variable {P : Program} {w : World} {K : PySem.W.Frag} {mg : Str -> Option Value} {base : Heap}
theorem Fun.ok {x qual : Str} {st : Stmt} {f : Addr} {fd : FuncData} {N ps : List Str} {k : Nat} {sp : Sp} (F : Fun K x qual st f fd) (S : FnScope N ps (qa0h st)) (len : ∀ vs H Q E, sp vs H Q E -> vs.length = ps.length)
  (hbody : ∀ (cdv : Value) (A : Around) (outer : List Env) (s : Shared) (H : Hp) (vs : List V) (Q : VK) (E : XK), Room k (A.deeper (envOfC qual (qa0h st) s.heap.objs.size f cdv)) -> sp vs H Q E ->
   ∃ t, PSs (cxOf CX0 P w K mg base N qual (qa0h st) f cdv A outer s H E).nox (qa0x st) t /\ t { nx := fun _ H' => Q .non H', rt := Q } (start N vs) H) : FnOk P w K mg base CX0 (k + 1) f fd ps sp := by
 obtain ⟨oc, od, kV, doc, pm, an, cdv, ct, osl, rfl, lk, hcd⟩ := F.ex
 refine fn_of lk hcd S len fun A outer s H vs Q E hr hsp => ?_
 obtain ⟨t, h, q⟩ := hbody cdv A outer s H vs Q E hr hsp
 exact ⟨t, h.nox, q⟩
theorem Fun.binds {x qual : Str} {st : Stmt} {f : Addr} {fd : FuncData} {ps : List Str} (F : Fun K x qual st f fd)
  (h : ∀ (kV doc pm : Value) (an : Option Addr) (cdv ct : Value) (us : List Value), us.length = ps.length -> bindArgs (PySem.W.fnOf x qual (qa1b st) (qa0x st) (qa0h st) .none kV doc pm an cdv ct) ⟨us, []⟩ = pure (ps.zip us)) : Binds K fd ps [] := by
 obtain ⟨oc, od, kV, doc, pm, an, cdv, ct, osl, rfl, lk, hcd⟩ := F.ex
 exact .all (h kV doc pm an cdv ct)
theorem qa1p {x qual : Str} {st : Stmt} {f : Addr} {oc : Value} {od an : Option Addr} {osl : Array (Option Value)} {kV doc pm cdv ct : Value} (l : K.lookup f = some ⟨oc, od, .func (PySem.W.fnOf x qual (qa1b st) (qa0x st) (qa0h st) .none kV doc pm an cdv ct), osl⟩)
  (c : PySem.W.codeIn K cdv qual = true) (k : PySem.W.keepIn K (.ref f) = true) : Fun K x qual st f (PySem.W.fnOf x qual (qa1b st) (qa0x st) (qa0h st) .none kV doc pm an cdv ct) := ⟨⟨oc, od, kV, doc, pm, an, cdv, ct, osl, rfl, l, c⟩, k⟩
end
section
variable {X : Cx}
theorem pv (i : Nat) {x : Str} {pos : Pos} (hN : X.N[i]? = some x := by rfl) (hv : Vis X.env.scope x := by first | exact Or.inl rfl | exact Or.inr (Or.inl rfl) | exact Or.inr (Or.inr rfl)) (hd : (x == ("__debug__" : Str)) = false := by decide)
  (hcd : (x == ("__classdict__" : Str)) = false := by decide) : PE X (.Name x pos) (tVar i) := qb1k hN hv hd hcd
end
theorem iteF {A B : Prop} (h : B) : if false = true then A else B := by
 rw [if_neg Bool.false_ne_true]
 exact h
theorem iteT {A B : Prop} (h : A) : if true = true then A else B := by
 rw [if_pos rfl]
 exact h
theorem ite2 {c A B : Prop} [Decidable c] (h1 : c -> A) (h2 : ¬ c -> B) : if c then A else B := by
 by_cases h : c
 ·rw [if_pos h]
  exact h1 h
 ·rw [if_neg h]
  exact h2 h
noncomputable def Same (H H' : Hp) : Prop := ∀ b o, H b = some o -> H' b = some o
theorem Same.refl (H : Hp) : Same H H := fun _ _ h => h
theorem Same.free {H H' : Hp} (e : Same H H') {l : Addr} (h : H' l = Option.none) : H l = Option.none := by
 cases q : H l with
 | none => rfl
 | some o =>
  rw [e l o q] at h
  cases h
end L2
end
section
namespace L2
open PySem PySem.Spec PyProof.Rows
section
variable {κ : Type} [DecidableEq κ]
noncomputable def valV (kvs : List (κ × V)) (k : κ) : Option V := (kvs.find? fun kv => decide (kv.1 = k)).map (·.2)
noncomputable def putK (kvs : List (κ × V)) (k : κ) (v : V) : List (κ × V) :=
 if (kvs.any fun kv => decide (kv.1 = k)) = true then kvs.map (fun kv => if kv.1 = k then (kv.1, v) else kv) else kvs ++ [(k, v)]
noncomputable def dropK (kvs : List (κ × V)) (k : κ) : List (κ × V) := kvs.filter fun kv => decide (kv.1 ≠ k)
theorem qd4i (kvs : List (κ × V)) (k : κ) (v : V) : (putK kvs k v).length <= kvs.length + 1 := by
 unfold putK
 split
 ·rw [List.length_map]; omega
 ·rw [List.length_append, List.length_cons, List.length_nil]; omega
theorem KV.any {kvs : List (κ × V)} {vs : List (κ × Value)} (r : KV kvs vs) (k : κ) : (kvs.any fun kv => decide (kv.1 = k)) = vs.any fun kv => decide (kv.1 = k) := by
 unfold KV at r
 induction r with
 | nil => rfl
 | cons h t ih => rw [List.any_cons, List.any_cons, ih, h.1]
theorem KV.repl {kvs : List (κ × V)} {vs : List (κ × Value)} (r : KV kvs vs) (k : κ) {y : V} {u : Value} (ry : RelV y u) :
  KV (kvs.map fun kv => if kv.1 = k then (kv.1, y) else kv) (vs.map fun kv => if kv.1 = k then (kv.1, u) else kv) := by
 unfold KV at r ⊢
 induction r with
 | nil => exact .nil
 | @cons p q ps qs h t ih =>
  rw [List.map_cons, List.map_cons]
  refine .cons ?_ ih
  obtain ⟨h1, h2⟩ := h
  by_cases e : p.1 = k
  ·rw [if_pos e, if_pos (h1.symm.trans e)]; exact ⟨h1, ry⟩
  ·rw [if_neg e, if_neg (fun z => e (h1.trans z))]; exact ⟨h1, h2⟩
theorem KV.put {kvs : List (κ × V)} {vs : List (κ × Value)} (r : KV kvs vs) (k : κ) {y : V} {u : Value} (ry : RelV y u) : KV (putK kvs k y) (stored vs k u) := by
 unfold putK stored
 rw [r.any k]
 by_cases e : (vs.any fun kv => decide (kv.1 = k)) = true
 ·rw [if_pos e, if_pos e]; exact r.repl k ry
 ·rw [if_neg e, if_neg e]; exact Paired.snoc r ⟨rfl, ry⟩
end
theorem kV_is {P : Program} {w : World} {k : Key} {u : Value} (r : RelV (kV k) u) : (qa4m P w).is k u = true := by
 cases k with
 | inl i => obtain ⟨t, e⟩ := (show ∃ t, u = Value.int i t from r); subst e; exact qd4f P w i t
 | inr x => obtain ⟨t, e⟩ := (show ∃ t, u = Value.str x t from r); subst e; exact qd4g P w x t
noncomputable abbrev KT (H : Hp) : List (List Key × V) -> List (List Key × Addr × Value) -> Prop := Paired fun p q => p.1 = q.1 /\ H q.2.1 = some (.tup (p.1.map kV)) /\ RelV p.2 q.2.2
section
variable {P : Program} {w : World} {H : Hp} {h : Heap} {a : Addr}
theorem rd_of {u : HO} (ok : HOk P w H h) (e : Rd H a u) : qa3s P w H h a u := e.ok ok
theorem dk_rd {kvs : List (Key × V)} (ok : HOk P w H h) (e : Rd H a (.dK kvs)) : kvs.length <= sizeLine /\ (a == sysModules) = false /\ ∃ vs, KV kvs vs /\ h.DictOf (qa4m P w) a vs :=
 show qa3s P w H h a (.dK kvs) from rd_of ok e
theorem dk_of {kvs : List (Key × V)} (ok : HOk P w H h) (e : H a = some (.dK kvs)) : kvs.length <= sizeLine /\ (a == sysModules) = false /\ ∃ vs, KV kvs vs /\ h.DictOf (qa4m P w) a vs := dk_rd ok (.inl e)
end
noncomputable def DGet (H : Hp) (a : Addr) (y : V) (r : Option V) : Prop :=
 (∃ kvs k, Rd H a (.dK kvs) /\ y = kV k /\ r = valV kvs k) ∨ ∃ kvs k b, Rd H a (.dT kvs) /\ y = .ref b /\ H b = some (.tup (k.map kV)) /\ r = valV kvs k
noncomputable def DPut (H : Hp) (a : Addr) (y v : V) (H' : Hp) : Prop :=
 (∃ kvs k, H a = some (.dK kvs) /\ y = kV k /\ kvs.length < sizeLine /\ H' = upd H a (.dK (putK kvs k v))) ∨
 ∃ kvs k b, H a = some (.dT kvs) /\ y = .ref b /\ H b = some (.tup (k.map kV)) /\ kvs.length < sizeLine /\ H' = upd H a (.dT (putK kvs k v))
section
variable {X : Cx} {pins : List (Addr × Obj)} {σ : St} {H : Hp} {s : Shared} {a : Addr} {y v : V} {u r : Value} {o : Option V} {A : Around} {E : Value -> Shared -> Prop}
theorem Inv.big (I : Inv X pins σ H s) : sysModules < s.heap.objs.size := by
 have h : mainGlobals < s.heap.objs.size := (I.mod.glob.keeps I.bk).lt
 exact Nat.lt_trans (by decide) h
theorem d_write {h' : Heap} {t' : Nat} {ob : HO} (I : Inv X pins σ H s) (mu : Mut (H a)) (hs : Heap.SameBut a s.heap h') (he : ∃ q, h'.get? a = some q) (new : qa3s X.prog X.w (upd H a ob) h' a ob) :
  Inv X pins σ (upd H a ob) { s with heap := h', toks := t' } :=
 I.write (x := a) (e := a) mu (.inl rfl) (fun b q hb z => (hs.2 b hb).trans z) he new
theorem dk_new {P : Program} {w : World} {H' : Hp} {h' : Heap} {kvs : List (Key × V)} {vs : List (Key × Value)} (z : kvs.length <= sizeLine) (hd : (a == sysModules) = false) (rel : KV kvs vs) (dd : h'.DictOf (qa4m P w) a vs) :
  qa3s P w H' h' a (.dK kvs) := ⟨z, hd, vs, rel, dd⟩
end
section
variable {X : Cx} {pins : List (Addr × Obj)} {σ : St} {H : Hp} {s : Shared} {a : Addr} {kvs : List (Key × V)} {k : Key} {u : Value} {A : Around} {E : Value -> Shared -> Prop}
end
section
variable {X : Cx} {o i e value : Expr} {pos pos' tpos : Pos} {td ty tv : TE}
end
theorem qc8q {P : Program} {w : World} {H : Hp} (h : Heap) (hb : sysModules < h.objs.size) : qa3s P w H (h.push { cls := .type "dict", data := .dict #[] }) h.objs.size (.dK []) :=
 ⟨Nat.zero_le _, beq_eq_false_iff_ne.mpr (Ne.symm (Nat.ne_of_lt hb)), [], .nil, Heap.DictOf.new h⟩
noncomputable def tDNewK : TE := fun _ H Q => ∀ p, H p = none -> Q (.ref p) (upd H p (.dK []))
section
variable {X : Cx} {pos : Pos}
theorem qe5p : PE X (.Dict [] [] pos) tDNewK := fun pins s σ H Q I h =>
 wpAny_Dict_empty ⟨.ref s.heap.objs.size, _, I.laid (a := s.heap.objs.size) (o := .dK []) (t' := s.toks) (fun _ _ q => Heap.get?_push_of_some _ q) (Nat.le_refl _) (qc8q s.heap I.big), rfl, h _ (I.hok.fresh (Nat.le_refl _))⟩
end
end L2
end
section
namespace L2
open PySem PySem.Spec PyProof.Rows
noncomputable def clOf (env : Env) : List (Str × NameKind) -> List (Str × Addr) -> List (Str × Addr)
 | [], acc => acc
 | (n, k) :: r, acc => if k == .free then clOf env r ((n, (env.cells.lookup n).getD 0) :: acc) else clOf env r acc
theorem qb4y (env : Env) (f : Str × NameKind -> List (Str × Addr) -> Sem (ForInStep (List (Str × Addr)))) :
  ∀ (names : List (Str × NameKind)) (acc : List (Str × Addr)),
   (∀ y ∈ names, ∀ c, f y c = if (y.2 == .free) = true then pure (.yield ((y.1, (env.cells.lookup y.1).getD 0) :: c)) else pure (.yield c)) ->
   (forIn names acc f : Sem _) = pure (clOf env names acc)
 | [], acc, _ => by rw [List.forIn_nil]; rfl
 | (n, k) :: r, acc, h => by
  rw [List.forIn_cons, h (n, k) List.mem_cons_self]
  have hr : ∀ y ∈ r, ∀ c, f y c = if (y.2 == .free) = true then pure (.yield ((y.1, (env.cells.lookup y.1).getD 0) :: c)) else pure (.yield c) := fun y hy => h y (List.mem_cons_of_mem _ hy)
  unfold clOf
  by_cases hk : (k == NameKind.free) = true
  ·rw [if_pos hk, if_pos hk, ← qb4y env f r _ hr]
   all_goals rfl
  ·rw [if_neg hk, if_neg hk, ← qb4y env f r _ hr]
   all_goals rfl
theorem qb7m {env : Env} {scope : Scope} (h : ∀ y ∈ scope.names, y.2 = .free -> ∃ c, env.cells.lookup y.1 = some c) :
  closureFor scope env = pure (clOf env scope.names []) := by
 simp only [closureFor]
 rw [qb4y env _ scope.names [] (fun y hy c => by
  obtain ⟨n, k⟩ := y
  by_cases hk : k = .free
  ·subst hk
   obtain ⟨a, ha⟩ := h (n, .free) hy rfl
   have e : cellOf env n = pure a := by unfold cellOf; rw [ha]
   simp only [beq_self_eq_true, if_true, e, ha, Option.getD_some]
   rfl
  ·have hb : (k == NameKind.free) = false := by simpa using hk
   simp only [hb, Bool.false_eq_true, if_false])]
 rfl
theorem qa8x (env : Env) : ∀ (names : List (Str × NameKind)) (acc : List (Str × Addr)), clOf env names acc = clOf env names [] ++ acc
 | [], acc => rfl
 | (n, k) :: r, acc => by
  unfold clOf
  split
  ·rw [qa8x env r, qa8x env r [_], List.append_assoc]; rfl
  ·exact qa8x env r acc
theorem qa8y {env : Env} : ∀ {names : List (Str × NameKind)} {x : Str} {c : Addr}, (x, c) ∈ clOf env names [] -> (x, NameKind.free) ∈ names /\ c = (env.cells.lookup x).getD 0
 | [], x, c, h => by cases h
 | (n, k) :: r, x, c, h => by
  unfold clOf at h
  split at h
  ·rename_i hk
   rw [qa8x] at h
   rcases List.mem_append.mp h with h | h
   ·exact ⟨List.mem_cons_of_mem _ (qa8y h).1, (qa8y h).2⟩
   ·have e : (x, c) = (n, (env.cells.lookup n).getD 0) := by simpa using h
    have hk' : k = .free := by simpa using hk
    cases e
    exact ⟨by rw [hk']; exact List.mem_cons_self, rfl⟩
  ·exact ⟨List.mem_cons_of_mem _ (qa8y h).1, (qa8y h).2⟩
theorem qc4h {env : Env} : ∀ {names : List (Str × NameKind)} {x : Str}, (x, NameKind.free) ∈ names -> (x, (env.cells.lookup x).getD 0) ∈ clOf env names []
 | [], x, h => by cases h
 | (n, k) :: r, x, h => by
  unfold clOf
  rcases List.mem_cons.mp h with e | h
  ·cases e
   rw [if_pos (by rfl), qa8x]
   exact List.mem_append_right _ (by simp)
  ·split
   ·rw [qa8x]; exact List.mem_append_left _ (qc4h h)
   ·exact qc4h h
theorem qa5y : ∀ (names : List (Str × NameKind)) (n : Nat) (acc : List (Str × Addr)), cellsFrom n names acc = cellsFrom n names [] ++ acc
 | [], _, acc => rfl
 | (x, k) :: r, n, acc => by
  unfold cellsFrom
  split
  ·rw [qa5y r, qa5y r _ [_], List.append_assoc]; rfl
  ·exact qa5y r n acc
theorem qa3f : ∀ {names : List (Str × NameKind)} {n : Nat} {x : Str} {c : Addr}, (x, c) ∈ cellsFrom n names [] -> (x, NameKind.cell) ∈ names /\ n <= c
 | [], n, x, c, h => by cases h
 | (y, k) :: r, n, x, c, h => by
  unfold cellsFrom at h
  split at h
  ·rename_i hk
   rw [qa5y] at h
   rcases List.mem_append.mp h with h | h
   ·have q := qa3f h
    exact ⟨List.mem_cons_of_mem _ q.1, by omega⟩
   ·have e : (x, c) = (y, n) := by simpa using h
    have hk' : k = .cell := by simpa using hk
    cases e
    exact ⟨by rw [hk']; exact List.mem_cons_self, Nat.le_refl _⟩
  ·have q := qa3f h
   exact ⟨List.mem_cons_of_mem _ q.1, q.2⟩
theorem qa8z {α : Type} (x : Str) : ∀ (a b : List (Str × α)), (a ++ b).lookup x = (a.lookup x).or (b.lookup x)
 | [], b => by simp
 | (k, v) :: r, b => by
  rw [List.cons_append, List.lookup_cons, List.lookup_cons]
  cases x == k with
  | true => rfl
  | false => exact qa8z x r b
theorem lookup_mem {α : Type} : ∀ {l : List (Str × α)} {x : Str} {v : α}, (x, v) ∈ l -> ∃ u, l.lookup x = some u
 | (k, w) :: r, x, v, h => by
  rw [List.lookup_cons]
  cases e : x == k with
  | true => exact ⟨w, rfl⟩
  | false =>
   rcases List.mem_cons.mp h with q | q
   ·cases q; simp at e
   ·exact lookup_mem q
theorem qa6i {α : Type} : ∀ {l : List (Str × α)} {x : Str} {v : α}, (l.map (·.1)).Nodup -> (x, v) ∈ l -> l.lookup x = some v
 | (k, w) :: r, x, v, hn, h => by
  rw [List.lookup_cons]
  rw [List.map_cons, List.nodup_cons] at hn
  rcases List.mem_cons.mp h with q | q
  ·cases q; simp
  ·have : (x == k) = false := by
    refine beq_eq_false_iff_ne.mpr ?_
    rintro rfl
    exact hn.1 (List.mem_map.mpr ⟨(x, v), q, rfl⟩)
   rw [this]
   exact qa6i hn.2 q
theorem qb4j (env : Env) (x : Str) : ∀ (names : List (Str × NameKind)),
  (names.map fun (n, k) => if (k == NameKind.free && env.scope.kind == .function && env.kindOf n == some .cell) then (n, NameKind.cell) else (n, k)).lookup x =
   (names.lookup x).map fun k => if (k == NameKind.free && env.scope.kind == .function && env.kindOf x == some .cell) then NameKind.cell else k
 | [] => rfl
 | (n, k) :: r => by
  rw [List.map_cons, List.lookup_cons]
  cases hx : x == n with
  | true =>
   have e : x = n := by simpa using hx
   subst e
   by_cases hc : (k == NameKind.free && env.scope.kind == .function && env.kindOf x == some .cell) = true
   ·simp only [if_pos hc, List.lookup_cons, hx, Option.map_some]
   ·simp only [if_neg hc, List.lookup_cons, hx, Option.map_some]
  | false =>
   have ih := qb4j env x r
   by_cases hc : (k == NameKind.free && env.scope.kind == .function && env.kindOf n == some .cell) = true
   ·simp only [if_pos hc, List.lookup_cons, hx]; exact ih
   ·simp only [if_neg hc, List.lookup_cons, hx]; exact ih
theorem qd4j {M : Model} {A : Around} {E : Value -> Shared -> Prop} {s : Shared} {scope : Scope} {globals : Addr} {cl : List (Str × Addr)} {qual : Str} {outer : Env} {Q : Env -> Shared -> Prop}
  (hQ : Q (newEnv scope s.heap.objs.size globals (cellsFrom (s.heap.objs.size + 1) scope.names cl) qual none .none (some outer) builtinsNs)
    { s with heap := pushCells (s.heap.push { cls := .type "dict", data := .dict #[] }) scope.names }) :
  wpAny M A (newFunctionEnv scope globals cl [] qual none .none (some outer)) Q E s := by
 simp only [newFunctionEnv, Option.isSome_some, if_true]
 refine wpAny_bind (wpAny_alloc ?_)
 refine wpAny_bind (wpAny_layCells _ (fun name kind cells => by cases hkc : kind == NameKind.cell <;> simp [hkc]) _ _ _ _ ?_)
 rw [show ({ s with heap := s.heap.push { cls := .type "dict", data := .dict #[] } } : Shared).heap.objs.size = s.heap.objs.size + 1 from Heap.size_push ..]
 rw [List.forIn_nil]
 exact wpAny_bind (wpAny_pure (wpAny_pure hQ))
section
variable {prog : Program} {w : World} {A : Around} {R : Result -> Shared -> Prop} {s : Shared}
theorem qd4k {elt target iter : Expr} {ifs : List Expr} {scope : Scope} {pos : Pos} {it acc : Value} {env : Env} (I : Nat -> Shared -> Prop)
  (turn : ∀ n s, I n s -> wpAny (model prog w) A (pyNext it) (fun r s₁ => match r with
   | none => R (.ok .next) s₁
   | some v => wpAny (model prog w) A (letOwnedTupleGo target it v) (fun _ s₂' => wpAny (model prog w) A (assign target env v) (fun _ s₂ =>
     wpAny (model prog w) A (forIn ifs true fun c r => if r = true then do let ok ← isTrue c env (eval c env); pure (ForInStep.yield ok) else pure (ForInStep.yield r)) (fun ok s₃ =>
      if ok = true then wpAny (model prog w) A (eval elt env) (fun x s₄ =>
       wpAny (model prog w) A (call (.builtin "list.append") [acc, x]) (fun _ s₅ => ∃ m, m < n /\ I m s₅) (notedBy (model prog w) A env fun e s' => R (.error e) s') s₄) (notedBy (model prog w) A env fun e s' => R (.error e) s') s₃
      else ∃ m, m < n /\ I m s₃) (notedBy (model prog w) A env fun e s' => R (.error e) s') s₂) (notedBy (model prog w) A env fun e s' => R (.error e) s') s₂') (notedBy (model prog w) A env fun e s' => R (.error e) s') s₁) (notedBy (model prog w) A env fun e s' => R (.error e) s') s)
  (n : Nat) (h : I n s) :
  codeAny (model prog w) A (.compLoop (.ListComp elt [⟨target, iter, ifs, 0⟩] scope pos) 0 it acc env) R s := by
 refine codeAny_loop rfl I (fun n s hI => ?_) n h
 show wpAny _ A ((compTurn (.ListComp elt [⟨target, iter, ifs, 0⟩] scope pos) 0 it acc env).onRaise (fun x => do noteFrame x env; theTreesLotGoes x)) _ _ s
 refine wpAny_noted ?_
 rw [compTurn_list]
 refine wpAny_bind (wpAny_standAt (wpAny_bind (wpAny_mono (turn n s hI) (fun r s₁ h₁ => ?_) fun _ _ h' => h')))
 cases r with
 | none => exact wpAny_pure h₁
 | some v =>
  refine wpAny_bind (wpAny_mono h₁ (fun _ s₂' h₂' => ?_) fun _ _ h' => h')
  refine wpAny_bind (wpAny_mono h₂' (fun _ s₂ h₂ => wpAny_bind (wpAny_mono h₂ (fun ok s₃ h₃ => ?_) fun _ _ h' => h')) fun _ _ h' => h')
  cases ok with
  | false => exact wpAny_pure ⟨rfl, h₃⟩
  | true =>
   exact wpAny_bind (wpAny_bind (wpAny_mono h₃ (fun x s₄ h₄ => wpAny_bind (wpAny_mono h₄ (fun _ s₅ h₅ => wpAny_pure (wpAny_pure ⟨rfl, h₅⟩)) fun _ _ h' => h')) fun _ _ h' => h'))
end
theorem nlt {a b : Nat} (h : b <= a) : ¬ a < b := Nat.not_lt.mpr h
noncomputable def cxC (X : Cx) (scope : Scope) (own : List Str) (cap : List (Str × Nat)) (fp : List Addr) (s2 : Shared) (H2 : Hp) : Cx where
 prog := X.prog
 w := X.w
 K := X.K
 mg := X.mg
 base := X.base
 A := X.A
 N := own ++ cap.map (·.1)
 s₀ := s2
 H₀ := H2
 env := { scope := relabel scope X.env, locals := s2.heap.objs.size + 1, globals := X.env.globals, cells := cellsFrom (s2.heap.objs.size + 1 + 1) scope.names (clOf X.env scope.names []), qual := X.env.qual, func := none, code := X.env.code, frame := X.env.frame, builtins := X.env.builtins }
 outer := X.stack
 stack := X.stack
 ex := fp
 fn := fun x => scope.names.lookup x == some .cell
 calm := X.calm
 pn := []
 xe := fun _ _ => False
noncomputable def qb0y (own : List Str) (cap : List (Str × Nat)) (σ : St) : St := List.replicate own.length none ++ cap.map fun p => (σ[p.2]?).join
noncomputable def qa7h (X : Cx) (scope : Scope) (own : List Str) (cap : List (Str × Nat)) : Bool :=
 scope.kind == .function && (scope.names.all fun y => y.2 != .free || X.env.kindOf y.1 == some .cell || X.env.kindOf y.1 == some .free) &&
 (cap.all fun p => X.N[p.2]? == some p.1 && scope.names.lookup p.1 == some .free) && (own.all fun x => !((cap.map (·.1)).contains x))
section
variable {X : Cx} {pins : List (Addr × Obj)} {σ : St} {H2 : Hp} {s2 : Shared} {scope : Scope} {own : List Str} {cap : List (Str × Nat)} {fp : List Addr}
theorem qb4z (h : qa7h X scope own cap = true) : scope.kind = .function := by
 simp only [qa7h, Bool.and_eq_true, beq_iff_eq] at h
 exact h.1.1.1
theorem qb5a (h : qa7h X scope own cap = true) : ∀ y ∈ scope.names, y.2 = .free -> X.env.kindOf y.1 = some .cell ∨ X.env.kindOf y.1 = some .free := by
 simp only [qa7h, Bool.and_eq_true, beq_iff_eq] at h
 intro y hy hf
 have q := List.all_eq_true.mp h.1.1.2 y hy
 simp only [hf, bne_self_eq_false, Bool.false_or, Bool.or_eq_true, beq_iff_eq] at q
 exact q
theorem qe3n (h : qa7h X scope own cap = true) : ∀ p ∈ cap, X.N[p.2]? = some p.1 /\ scope.names.lookup p.1 = some .free := by
 simp only [qa7h, Bool.and_eq_true, beq_iff_eq] at h
 intro p hp
 have q := List.all_eq_true.mp h.1.2 p hp
 simp only [Bool.and_eq_true, beq_iff_eq] at q
 exact q
theorem qe5q (I : Inv X pins σ H2 s2) (hok : qa7h X scope own cap = true) (hnd : (scope.names.map (·.1)).Nodup) (hfp : ∀ b ∈ fp, FpOk X pins H2 b) (hob : ∀ b ∈ fp, ∃ o, s2.heap.get? b = some o) :
  Inv (cxC X scope own cap fp s2 H2) [] (qb0y own cap σ) (upd H2 s2.heap.objs.size (.lst []))
   { s2 with heap := pushCells ((s2.heap.push { cls := .type "list", dict := none, data := .seq ([] : List Value).toArray }).push { cls := .type "dict", data := .dict #[] }) scope.names } := by
 have hkind := qb4z hok
 have hfree := qb5a hok
 have hcap := qe3n hok
 have hdf : H2 s2.heap.objs.size = none := I.fresh
 generalize hh1 : s2.heap.push { cls := .type "list", dict := none, data := .seq ([] : List Value).toArray } = h1
 have z1 : h1.objs.size = s2.heap.objs.size + 1 := by rw [← hh1, Heap.size_push]
 generalize hh2 : h1.push { cls := .type "dict", data := .dict #[] } = h2
 have z2 : h2.objs.size = s2.heap.objs.size + 1 + 1 := by rw [← hh2, Heap.size_push, z1]
 have k1 : ∀ b o, s2.heap.get? b = some o -> h1.get? b = some o := fun b o e => by rw [← hh1]; exact Heap.get?_push_of_some _ e
 have k2 : ∀ b o, h1.get? b = some o -> h2.get? b = some o := fun b o e => by rw [← hh2]; exact Heap.get?_push_of_some _ e
 have k3 : ∀ b o, h2.get? b = some o -> (pushCells h2 scope.names).get? b = some o := fun b o e => pushCells_keeps _ _ b o e
 have k : ∀ b o, s2.heap.get? b = some o -> (pushCells h2 scope.names).get? b = some o := fun b o e => k3 b o (k2 b o (k1 b o e))
 have hD : (pushCells h2 scope.names).get? s2.heap.objs.size = some { cls := .type "list", dict := none, data := .seq ([] : List Value).toArray } := by
  refine k3 _ _ (k2 _ _ ?_)
  rw [← hh1]; exact Heap.get?_push_size _ rfl
 have hC : (pushCells h2 scope.names).Ns (s2.heap.objs.size + 1) fun _ => none := by
  have q : h2.Ns h1.objs.size fun _ => none := by rw [← hh2]; exact Heap.Ns.new h1 (.type "dict")
  rw [z1] at q
  exact q.keeps k3
 have own_ok := cellsFrom_ok scope.names h2 (s2.heap.objs.size + 1 + 1) [] ⟨fun _ _ hm => (nomatch hm), List.Pairwise.nil⟩ (by rw [z2]; exact Nat.le_refl _)
 rw [z2] at own_ok
 have ec : (cxC X scope own cap fp s2 H2).env.cells = cellsFrom (s2.heap.objs.size + 1 + 1) scope.names [] ++ clOf X.env scope.names [] := qa5y _ _ _
 -- an entry is a new cell, or one of the names around
 have split : ∀ x c, (cxC X scope own cap fp s2 H2).env.cells.lookup x = some c -> ((x, c) ∈ cellsFrom (s2.heap.objs.size + 1 + 1) scope.names []) ∨ ((x, NameKind.free) ∈ scope.names /\ X.env.cells.lookup x = some c) := fun x c e => by
  rw [ec, qa8z] at e
  cases e1 : (cellsFrom (s2.heap.objs.size + 1 + 1) scope.names []).lookup x with
  | some c' => rw [e1] at e; cases e; exact .inl (mem_of_lookup e1)
  | none =>
   rw [e1] at e
   have e' : (clOf X.env scope.names []).lookup x = some c := e
   obtain ⟨m1, m2⟩ := qa8y (mem_of_lookup e')
   obtain ⟨c', hc'⟩ := I.ok.has x (hfree _ m1 rfl)
   rw [hc'] at m2
   exact .inr ⟨m1, by rw [hc', m2]; rfl⟩
 have capCell : ∀ x, (x, NameKind.free) ∈ scope.names -> ∀ c, X.env.cells.lookup x = some c -> (cxC X scope own cap fp s2 H2).env.cells.lookup x = some c := fun x hx c hc => by
  rw [ec, qa8z]
  cases e1 : (cellsFrom (s2.heap.objs.size + 1 + 1) scope.names []).lookup x with
  | some c' =>
   have q := (qa3f (mem_of_lookup e1)).1
   have q1 := qa6i hnd q
   have q2 := qa6i hnd hx
   rw [q1] at q2; cases q2
  | none =>
   obtain ⟨u, hu⟩ := lookup_mem (qc4h (env := X.env) hx)
   have m2 := (qa8y (mem_of_lookup hu)).2
   rw [hc] at m2
   show (clOf X.env scope.names []).lookup x = some c
   rw [hu, m2]; rfl
 have lt_of_around : ∀ x c, X.env.cells.lookup x = some c -> c < s2.heap.objs.size := fun x c e => by
  obtain ⟨v, q⟩ := I.cell x c e
  exact q.lt
 have kof : ∀ x, (cxC X scope own cap fp s2 H2).env.kindOf x = (scope.names.lookup x).map fun k => if (k == NameKind.free && X.env.scope.kind == .function && X.env.kindOf x == some .cell) then NameKind.cell else k := fun x => qb4j X.env x scope.names
 have fpLt : ∀ b ∈ fp, b < s2.heap.objs.size := fun b hb => by obtain ⟨o, e⟩ := hob b hb; exact Heap.lt_size e
 have hokH : HOk X.prog X.w (upd H2 s2.heap.objs.size (.lst [])) (pushCells h2 scope.names) := I.hok.laid k (Nat.le_refl _) ⟨Nat.zero_le _, [], _, .nil, hD⟩
 refine ⟨⟨I.ok.mod, ?_, I.ok.glob, I.ok.blt, Nat.le_succ _, fun x y c e1 e2 => ?_, fun x hx => ?_, fun x c hf e => ?_, I.ok.hd, I.ok.frames, .inl rfl, fun b hb => ⟨?_, fun x c e => ?_⟩, I.bs, Nat.le_trans I.ok.bsz I.sz, fun b o e hb => ?_, fun b hb hb2 => ?_, I.stack, I.stkFree⟩,
  rfl, I.bare, Un.laid k (Nat.le_refl _) hdf, ⟨_, hC, fun i x v e1 e2 e3 => ?_⟩, fun x c e => ?_, ?_, fun x c e => ?_, fun p hp => ?_, hokH, ?_⟩
 ·exact hkind
 ·rcases split x c e1 with m1 | ⟨m1, q1⟩ <;> rcases split y c e2 with m2 | ⟨m2, q2⟩
  ·exact name_of_addr own_ok.apart m1 m2
  ·exact absurd (lt_of_around y c q2) (nlt (by have := (qa3f m1).2; omega))
  ·exact absurd (lt_of_around x c q1) (nlt (by have := (qa3f m2).2; omega))
  ·exact I.ok.inj x y c q1 q2
 ·rw [kof x] at hx
  cases e1 : scope.names.lookup x with
  | none => rw [e1] at hx; rcases hx with z | z <;> cases z
  | some kx =>
   have mx := mem_of_lookup e1
   cases kx with
   | free =>
    obtain ⟨c, hc⟩ := I.ok.has x (hfree _ mx rfl)
    exact ⟨c, capCell x mx c hc⟩
   | cell =>
    have q := PySem.W.cellsFrom_some scope.names (s2.heap.objs.size + 1 + 1) (clOf X.env scope.names []) (x := x) (.inl e1)
    exact Option.isSome_iff_exists.mp q
   | _ => rw [e1] at hx; rcases hx with z | z <;> simp at z
 ·rcases split x c e with m1 | ⟨m1, q1⟩
  ·have := (qa3f m1).2; show s2.heap.objs.size <= c; omega
  ·have q2 := qa6i hnd m1
   have hf' : (scope.names.lookup x == some NameKind.cell) = true := hf
   rw [q2] at hf'; simp at hf'
 ·exact Nat.ne_of_lt (Nat.lt_succ_of_lt (fpLt b hb))
 ·have h1 := fpLt b hb
  rcases split x c e with m1 | ⟨m1, q1⟩
  ·exact Nat.ne_of_gt (Nat.lt_of_lt_of_le h1 (by have := (qa3f m1).2; omega))
  ·exact (hfp b hb).2.2.2.2.1 x c q1
 ·rcases (hfp b hb).2.2.2.1 with z | z
  ·exact I.ok.noex b o e z
  ·exact absurd (Nat.lt_of_lt_of_le (Heap.lt_size e) (Nat.le_trans I.ok.bsz z)) (Nat.lt_irrefl _)
 ·rcases List.mem_cons.mp (I.stkSub b hb2) with z | z
  ·exact (hfp b hb).2.1 z
  ·exact (hfp b hb).2.2.1 z
 ·-- names that are closed over
  have ei : own.length <= i := by
   by_cases hi : i < own.length
   ·unfold qb0y at e2
    rw [List.getElem?_append_left (by simpa using hi), List.getElem?_replicate, if_pos hi] at e2
    cases e2
   ·omega
  have e1' : (cap.map (·.1))[i - own.length]? = some x := by
   have : (own ++ cap.map (·.1))[i]? = some x := e1
   rwa [List.getElem?_append_right ei] at this
  have e2' : (cap.map fun p => (σ[p.2]?).join)[i - own.length]? = some (some v) := by
   unfold qb0y at e2
   rw [List.getElem?_append_right (by simpa using ei)] at e2
   simpa using e2
  rw [List.getElem?_map] at e1' e2'
  cases ep : cap[i - own.length]? with
  | none => rw [ep] at e1'; cases e1'
  | some p =>
   rw [ep] at e1' e2'
   have hx : p.1 = x := by simpa using e1'
   have hv : (σ[p.2]?).join = some v := by simpa using e2'
   have hσ : σ[p.2]? = some (some v) := by
    cases eσ : σ[p.2]? with
    | none => rw [eσ] at hv; cases hv
    | some w' => rw [eσ] at hv; simp at hv; rw [hv]
   obtain ⟨hN, hl⟩ := hcap p (List.mem_of_getElem? ep)
   rw [hx] at hN hl
   have mx := mem_of_lookup hl
   have hvis : Vis X.env.scope x := by
    rcases hfree _ mx rfl with z | z
    ·exact .inr (.inl z)
    ·exact .inr (.inr z)
   obtain ⟨m, _, hl'⟩ := I.loc
   obtain ⟨u, r, lk⟩ := hl' p.2 x v hN hσ hvis
   refine ⟨u, r, .inr ?_⟩
   rcases lk with ⟨z, _⟩ | ⟨z, c, hc, hcell⟩
   ·rcases hfree _ mx rfl with z' | z' <;> rw [z'] at z <;> cases z
   ·refine ⟨?_, c, capCell x mx c hc, hcell.keeps k⟩
    rw [kof x, hl]
    by_cases hcc : (NameKind.free == NameKind.free && X.env.scope.kind == .function && X.env.kindOf x == some .cell) = true
    ·left; simp only [Option.map_some, if_pos hcc]
    ·right; simp only [Option.map_some, if_neg hcc]
 ·rcases split x c e with m1 | ⟨m1, q1⟩
  ·exact ⟨_, (own_ok.empty x c m1).1⟩
  ·obtain ⟨v, q⟩ := I.cell x c q1
   exact ⟨v, q.keeps k⟩
 ·show upd H2 s2.heap.objs.size (.lst []) (s2.heap.objs.size + 1) = none
  rw [qa1j (Nat.succ_ne_self _)]
  exact I.hok.fresh (Nat.le_succ _)
 ·rcases split x c e with m1 | ⟨m1, q1⟩
  ·have hle := (qa3f m1).2
   rw [qa1j (Nat.ne_of_gt (Nat.lt_of_lt_of_le (Nat.lt_succ_self _) (by omega)))]
   exact I.hok.fresh (by omega)
  ·rw [qa1j (Nat.ne_of_lt (lt_of_around x c q1))]
   exact I.freeC x c q1
 ·exact absurd (show p ∈ ([] : List (Addr × Obj)) from hp) (by simp)
 ·unfold qb0y
  show _ = (own ++ cap.map (·.1)).length
  simp
end
noncomputable def PIf (X : Cx) (ifs : List Expr) (t : TT) : Prop :=
 ∀ (pins : List (Addr × Obj)) (s : Shared) (σ : St) (H : Hp) (Q : Bool -> Hp -> Prop), Inv X pins σ H s -> t σ H Q ->
  wpAny (model X.prog X.w) X.A (forIn ifs true fun c r => if r = true then do let ok ← isTrue c X.env (eval c X.env); pure (ForInStep.yield ok) else pure (ForInStep.yield r)) (TP X pins σ Q) X.xe s
noncomputable def tYes : TT := fun _ H Q => Q true H
theorem pif_nil {X : Cx} : PIf X [] tYes := fun _ _ _ H _ I h => wpAny_tests_nil ⟨H, I, h⟩
theorem pif_one {X : Cx} {c : Expr} {t : TT} (h : PT X c t) : PIf X [c] t := fun pins s σ H Q I hq => wpAny_tests_one (h pins s σ H Q I hq)
noncomputable def qc8r (own : List Str) (cap : List (Str × Nat)) (g : TG) (tt : TT) (te : TE) (J : It) (D : Addr) (σ : St) (H1 : Hp) (Z : Hp -> Prop) : Prop :=
 ∃ W : Nat -> Nat -> St -> Hp -> Prop, (∃ m, W 0 m (qb0y own cap σ) (upd H1 D (.lst []))) /\ ∀ i m σ' H', W i m σ' H' ->
  (J.stop i H' /\ Z H') ∨ (J.go i H' /\ ∃ N : St -> Hp -> Prop, (∀ σ'' H'', N σ'' H'' -> ∃ m', m' < m /\ W (i + 1) m' σ'' H'') /\ ∀ x H'', J.yld i H' x H'' ->
   g x σ' H'' fun σ2 H2 => tt σ2 H2 fun b H3 => if b = true then te σ2 H3 fun y H4 => ∃ ys, H4 D = some (.lst ys) /\ ys.length < sizeLine /\ N σ2 (upd H4 D (.lst (ys ++ [y]))) else N σ2 H3)
noncomputable def tComp (own : List Str) (cap : List (Str × Nat)) (wi : TI) (g : TG) (tt : TT) (te : TE) : TE := fun σ H Q => wi σ H fun J H1 => ∀ D, H1 D = none -> qc8r own cap g tt te J D σ H1 (Q (.ref D))
theorem qc8s {X : Cx} {elt tg iter : Expr} {ifs : List Expr} {scope : Scope} {pos : Pos} {own : List Str} {cap : List (Str × Nat)} {g : TG} {tt : TT} {te : TE}
  (hc : X.calm = true) (hok : qa7h X scope own cap = true) (hnd : (scope.names.map (·.1)).Nodup)
  (hg : ∀ fp s2 H2, PG (cxC X scope own cap fp s2 H2) tg g) (ht : ∀ fp s2 H2, PIf (cxC X scope own cap fp s2 H2) ifs tt) (he : ∀ fp s2 H2, PE (cxC X scope own cap fp s2 H2) elt te)
  {pins : List (Addr × Obj)} {σ : St} {H1 : Hp} {s2 : Shared} {it : Addr} {fp : List Addr} {tn : Nat -> Heap -> Prop} {J : It} {Z : Hp -> Prop} {RR : Result -> Shared -> Prop}
  (I : Inv X pins σ H1 s2) (T : Turn X.prog X.w X.K tg J fp it tn) (h0 : tn 0 s2.heap) (hfp : ∀ b ∈ fp, FpOk X pins H1 b)
  (hb : qc8r own cap g tt te J s2.heap.objs.size σ H1 Z)
  (hR : ∀ s' H' m, (∀ h', Heap.SameBut (s2.heap.objs.size + 1) s'.heap h' -> Inv X pins σ H' { s' with heap := h' }) -> s'.heap.Ns (s2.heap.objs.size + 1) m -> H' (s2.heap.objs.size + 1) = none -> Z H' -> RR (.ok .next) s') :
  wpAny (model X.prog X.w) X.A (newFunctionEnv scope X.env.globals (clOf X.env scope.names []) [] X.env.qual none .none (some X.env)) (fun cenv s₄ =>
   cenv.locals = s2.heap.objs.size + 1 /\ codeAny (model X.prog X.w) X.A (.compStart (.ListComp elt [⟨tg, iter, ifs, 0⟩] scope pos) 0 (.ref it) (.ref s2.heap.objs.size) { cenv with scope := relabel scope X.env }) RR s₄)
   X.xe { s2 with heap := s2.heap.push { cls := .type "list", dict := none, data := .seq ([] : List Value).toArray } } := by
 have hob : ∀ b ∈ fp, ∃ o, s2.heap.get? b = some o := fun b hb => let ⟨o, e, _⟩ := T.obj _ _ h0 b hb; ⟨o, e⟩
 have I0 := qe5q (own := own) (cap := cap) I hok hnd hfp hob
 refine qd4j ?_
 have z1 : (s2.heap.push { cls := .type "list", dict := none, data := .seq ([] : List Value).toArray }).objs.size = s2.heap.objs.size + 1 := Heap.size_push ..
 dsimp only
 rw [z1]
 refine ⟨rfl, ?_⟩
 show codeAny (model X.prog X.w) X.A (.compStart (.ListComp elt [⟨tg, iter, ifs, 0⟩] scope pos) 0 (.ref it) (.ref s2.heap.objs.size) (cxC X scope own cap fp s2 H1).env) RR _
 generalize hs4 : ({ s2 with heap := pushCells ((s2.heap.push { cls := .type "list", dict := none, data := .seq ([] : List Value).toArray }).push { cls := .type "dict", data := .dict #[] }) scope.names } : Shared) = s4 at I0 ⊢
 have kp : ∀ b o, s2.heap.get? b = some o -> s4.heap.get? b = some o := fun b o e => by
  rw [← hs4]; exact pushCells_keeps _ _ b o (Heap.get?_push_of_some _ (Heap.get?_push_of_some _ e))
 have st4 : tn 0 s4.heap := T.keep _ _ _ h0 fun b _ o e => kp b o e
 obtain ⟨W, ⟨m0, w0⟩, turn⟩ := hb
 -- the iterator's records are the block's own
 have stat : ∀ {H' : Hp}, (∀ b ∈ fp, H' b = none) -> ∀ b ∈ fp, FpOk (cxC X scope own cap fp s2 H1) [] H' b := fun hn b hb =>
  ⟨hn b hb, (I0.ok.exf b hb).1, I0.ok.exfs b hb, .inl hb, fun x c e => (I0.ok.exf b hb).2 x c e, fun p hp => absurd (show p ∈ ([] : List (Addr × Obj)) from hp) (by simp)⟩
 have fr0 : ∀ b ∈ fp, upd H1 s2.heap.objs.size (.lst []) b = none := fun b hb => by
  obtain ⟨o, e⟩ := hob b hb
  rw [qa1j (Nat.ne_of_lt (Heap.lt_size e))]
  exact (hfp b hb).1
 have loop : codeAny (model X.prog X.w) X.A (.compLoop (.ListComp elt [⟨tg, iter, ifs, 0⟩] scope pos) 0 (.ref it) (.ref s2.heap.objs.size) (cxC X scope own cap fp s2 H1).env) RR s4 := by
  refine qd4k (fun n s' => ∃ i σ' H', Inv (cxC X scope own cap fp s2 H1) [] σ' H' s' /\ tn i s'.heap /\ (∀ b ∈ fp, H' b = none) /\ W i n σ' H') ?_ m0 ⟨0, _, _, I0, st4, fr0, w0⟩
  rintro n s3 ⟨i, σ3, H3, I3, st3, fr3, w3⟩
  rcases turn i n σ3 H3 w3 with ⟨stop, qn⟩ | ⟨go, N, hN, step⟩
  ·refine wpAny_noRaise (thn (T.done (cxC X scope own cap fp s2 H1) rfl rfl rfl hc i [] s3 σ3 H3 _ I3 (stat fr3) st3 stop) fun r s5 ⟨hr, I5⟩ => ?_)
   subst hr
   obtain ⟨m5, hm5, _⟩ := id I5.loc
   refine hR s5 H3 m5 (fun h' hs' => ?_) hm5 I5.free qn
   ·have un : Un (frs X.stack) fp H1 H3 s2.heap s5.heap := I5.base
    have low : ∀ b o, s2.heap.get? b = some o -> b ≠ s2.heap.objs.size + 1 := fun b o e => Nat.ne_of_lt (Nat.lt_succ_of_lt (Heap.lt_size e))
    refine I.call' (s' := { s5 with heap := h' }) (ch := fp) I5.os ⟨fun b o e n hb hx => (hs'.2 b (low b o e)).trans (un.keep b o e n hb hx), fun b o e n hb hx => ?_, un.free, fun b o e hx => ?_, un.tups, un.frzs, un.tbls⟩ ?_ I5.bare fun b hb => ⟨(hfp b hb).2.2.2.1, (hfp b hb).2.1, (hfp b hb).2.2.2.2.1, (hfp b hb).2.2.2.2.2⟩
    ·obtain ⟨sl, q⟩ := un.slot b o e n hb hx
     exact ⟨sl, (hs'.2 b (low b o e)).trans q⟩
    ·obtain ⟨o', q⟩ := un.there b o e hx
     exact ⟨o', (hs'.2 b (low b o e)).trans q⟩
    ·intro b ob e
     refine (I5.hok b ob e).stay (fun c w' hc' q => (hs'.2 c ?_).trans q) (fun _ q => q) fun _ _ q => q
     have nC : H3 (s2.heap.objs.size + 1) = none := I5.free
     rintro rfl
     rcases hc' with rfl | hc'
     ·rw [nC] at e; cases e
     ·rw [nC] at hc'; cases hc'
  ·refine wpAny_noRaise (thn (T.item (cxC X scope own cap fp s2 H1) rfl rfl rfl hc i [] s3 σ3 H3 (fun _ _ => False) I3 (stat fr3) st3 go) fun r s5 ⟨u, hr, h5⟩ => ?_)
   subst hr
   refine wpAny_noRaise (thn h5 fun _ s6 ⟨x, H6, I6, r6, y6, st6, fr6⟩ => ?_)
   have I6' := I6.pinned (stat fr6) (T.obj _ _ st6)
   refine wpAny_noRaise (thn (hg fp s2 H1 _ s6 σ3 H6 x u _ I6' r6 (step x H6 y6)) fun _ s7 ⟨σ7, H7, I7, q7⟩ => ?_)
   refine wpAny_noRaise (thn (ht fp s2 H1 _ s7 σ7 H7 _ I7 q7) fun ok s8 ⟨H8, I8, q8⟩ => ?_)
   have again : ∀ {σ9 : St} {H9 : Hp} {s9 : Shared}, Inv (cxC X scope own cap fp s2 H1) ([] ++ qb8b fp s6.heap) σ9 H9 s9 -> N σ9 H9 -> ∃ m, m < n /\ ∃ i σ' H', Inv (cxC X scope own cap fp s2 H1) [] σ' H' s9 /\ tn i s9.heap /\ (∀ b ∈ fp, H' b = none) /\ W i m σ' H' := fun {σ9 H9 s9} I9 n9 => by
    obtain ⟨m', hm, w9⟩ := hN σ9 H9 n9
    refine ⟨m', hm, i + 1, σ9, H9, I9.unpinned, T.keep _ _ _ st6 fun b hb o e => (I9.pin (b, o) (List.mem_append_right _ (List.mem_append_right _ (qb0x hb e)))).1, fun b hb => ?_, w9⟩
    obtain ⟨o, e, d⟩ := T.obj _ _ st6 b hb
    exact (I9.pin (b, o) (List.mem_append_right _ (List.mem_append_right _ (qb0x hb e)))).2.1
   cases ok with
   | false => exact again I8 q8
   | true =>
    rw [if_pos rfl] at q8
    rw [if_pos rfl]
    refine wpAny_noRaise (thn (he fp s2 H1 _ s8 σ7 H8 _ I8 q8) fun y s9 ⟨yv, H9, I9, r9, ys, hD, hz, q9⟩ => ?_)
    refine wpAny_noRaise (thn (qc6j _ s9 σ7 H9 (.ref s2.heap.objs.size) [yv] (.ref s2.heap.objs.size) [y] (fun _ H' => N σ7 H') I9 rfl (.cons r9 .nil) ⟨_, ys, yv, rfl, rfl, hD, hz, q9⟩) fun _ s10 ⟨_, H10, I10, _, q10⟩ => ?_)
    exact again I10 q10
 exact codeAny_compStart_list loop (T.self X.A 0 _ _ _ st4 loop)
theorem qc0m {scope : Scope} (hnd : (scope.names.map (·.1)).Nodup) : ∀ x ∈ scope.names, x.2 = .local -> scope.names.lookup x.1 = some .local := fun x hx e => by
 obtain ⟨n, k⟩ := x
 have e' : k = .local := e
 subst e'
 exact qa6i hnd hx
theorem pe_comp {X : Cx} {elt tg iter : Expr} {ifs : List Expr} {scope : Scope} {pos : Pos} {own : List Str} {cap : List (Str × Nat)} {wi : TI} {g : TG} {tt : TT} {te : TE}
  (hc : X.calm = true) (hok : qa7h X scope own cap = true) (hnd : (scope.names.map (·.1)).Nodup) (hi : PI X tg iter wi)
  (hg : ∀ fp s2 H2, PG (cxC X scope own cap fp s2 H2) tg g) (ht : ∀ fp s2 H2, PIf (cxC X scope own cap fp s2 H2) ifs tt) (he : ∀ fp s2 H2, PE (cxC X scope own cap fp s2 H2) elt te)
  (hs : ∀ x, foldedSetIterable iter X.env x = pure x := by intro _; rfl) :
  PE X (.ListComp elt [⟨tg, iter, ifs, 0⟩] scope pos) (tComp own cap wi g tt te) := by
 intro pins s σ H Q I h
 have hkind := qb4z hok
 have hclos : closureFor scope X.env = pure (clOf X.env scope.names []) := qb7m fun y hy hf => I.ok.has y.1 (qb5a hok y hy hf)
 rw [eval_ListComp]
 refine wpAny_comprehension_free (use := none) rfl hs hclos hkind (qc0m hnd) (thn (hi pins s σ H _ I h) fun xv s1 h1 => thn h1 fun itv s2 h2 => ?_)
 obtain ⟨it, fp, tn, J, H1, e, I2, T, st2, f2, hb⟩ := h2
 subst e
 refine wpAny_newObj_type (thn (qc8s (iter := iter) (pos := pos) (RR := compPost (model X.prog X.w) X.A X.xe none (EP X pins σ Q) (.ref s2.heap.objs.size) (s2.heap.objs.size + 1)) hc hok hnd hg ht he I2 T st2 f2 (hb _ I2.fresh) fun s' H' m hI hm hnC z => ?_) fun cenv s4 ⟨e, q⟩ => ?_)
 ·exact ⟨m, hm, fun h' hs' => ⟨.ref s2.heap.objs.size, H', hI h' hs', rfl, z⟩⟩
 ·rw [← e] at q; exact q
theorem ps_setC {X : Cx} {i : Nat} {y : Str} {py spos : Pos} {elt tg iter : Expr} {ifs : List Expr} {scope : Scope} {pos : Pos} {own : List Str} {cap : List (Str × Nat)} {wi : TI} {g : TG} {tt : TT} {te : TE}
  (hN : X.N.Nodup) (hi' : X.N[i]? = some y) (hy : X.env.scope.names.lookup y = some .local)
  (hc : X.calm = true) (hok : qa7h X scope own cap = true) (hnd : (scope.names.map (·.1)).Nodup) (hi : PI X tg iter wi)
  (hg : ∀ fp s2 H2, PG (cxC X scope own cap fp s2 H2) tg g) (ht : ∀ fp s2 H2, PIf (cxC X scope own cap fp s2 H2) ifs tt) (he : ∀ fp s2 H2, PE (cxC X scope own cap fp s2 H2) elt te)
  (hsw : swapsWith (.ListComp elt [⟨tg, iter, ifs, 0⟩] scope pos) (some (.Name y py)) spos.line X.env = pure true := by rfl)
  (hs : ∀ x, foldedSetIterable iter X.env x = pure x := by intro _; rfl) :
  PS X (.Assign [.Name y py] (.ListComp elt [⟨tg, iter, ifs, 0⟩] scope pos) spos) (tAsg (tComp own cap wi g tt te) (qb4x i)) := by
 intro pins s σ H D I h
 have hkind := qb4z hok
 have hclos : closureFor scope X.env = pure (clOf X.env scope.names []) := qb7m fun y hy hf => I.ok.has y.1 (qb5a hok y hy hf)
 rw [exec_Assign_Name_used _ _ _ _ hsw]
 refine wpAny_bind (wpAny_standAt (wpAny_bind ?_))
 show wpAny _ X.A (do let _ ← comprehension (.ListComp elt [⟨tg, iter, ifs, 0⟩] scope pos) scope X.env _ (newList []) false (eval iter X.env) (some (assign (.Name y py) X.env))) _ _ s
 refine wpAny_bind (wpAny_mono (wpAny_comprehension_free (use := some (assign (.Name y py) X.env)) (Q := fun _ s' => SP X pins D .next s') rfl hs hclos hkind (qc0m hnd)
  (thn (hi pins s σ H _ I h) fun xv s1 h1 => thn h1 fun itv s2 h2 => ?_)) (fun _ s' hq => wpAny_pure (wpAny_pure hq)) fun _ _ e => e)
 obtain ⟨it, fp, tn, J, H1, e, I2, T, st2, f2, hb⟩ := h2
 subst e
 refine wpAny_newObj_type (thn (qc8s (iter := iter) (pos := pos) (RR := compPost (model X.prog X.w) X.A X.xe (some (assign (.Name y py) X.env)) (fun _ s' => SP X pins D .next s') (.ref s2.heap.objs.size) (s2.heap.objs.size + 1)) hc hok hnd hg ht he I2 T st2 f2 (hb _ I2.fresh) fun s' H' m hI hm hnC z => ?_) fun cenv s4 ⟨e, q⟩ => ?_)
 ·show wpAny _ _ (assign (.Name y py) X.env (.ref s2.heap.objs.size)) _ _ s'
  have I' : Inv X pins σ H' s' := hI s'.heap (Heap.SameBut.refl ..)
  refine wpAny_assign_Name (qc6d I' hN hi' (.inl hy) (v := .ref s2.heap.objs.size) rfl (fun s'' I'' hsb => ?_) (.inr hy))
  obtain ⟨a, hs1, ha⟩ := hsb
  have nC : s2.heap.objs.size + 1 ≠ a := by
   rintro rfl
   rcases ha with ha | ha
   ·have q := I2.lt
    rw [← ha] at q
    exact absurd q (nlt (Nat.le_succ _))
   ·obtain ⟨v, q⟩ := I2.cell _ _ ha
    exact absurd q.lt (nlt (Nat.le_succ _))
  refine ⟨m, hm.sameBut hs1 nC, fun h' hs' => ⟨_, H', ?_, z⟩⟩
  obtain ⟨_, f1, f2, f3, f4, f5⟩ := I2.fpOk (b := s2.heap.objs.size + 1) (Nat.le_succ _) hnC
  exact I''.turned (t' := s''.toks) (it := s2.heap.objs.size + 1) (fun b o hb e => (hs'.2 b hb).trans e) hnC f1 f3 f4 f5
 ·rw [← e] at q; exact q
end L2
end
section
namespace L2
open PySem PySem.Spec PyProof.Rows
theorem qa1s : bootBuiltins "len" = some (.builtin "len") := by decide +kernel
theorem qc7f : bootBuiltins "isinstance" = some (.builtin "isinstance") := by decide +kernel
theorem qd4l : bootBuiltins "reversed" = some (.type "reversed") := by decide +kernel
theorem bt_int : bootBuiltins "int" = some (.type "int") := by decide +kernel
theorem qd8h : bootBuiltins "bool" = some (.type "bool") := by decide +kernel
theorem qb1r : bootBuiltins "str" = some (.type "str") := by decide +kernel
theorem qd8i : bootBuiltins "list" = some (.type "list") := by decide +kernel
theorem qa6j : bootBuiltins "tuple" = some (.type "tuple") := by decide +kernel
noncomputable def kvE (p : Str × Int) : Key × V := (Sum.inr p.1, V.int p.2)
noncomputable def kvD (p : Str × Int) : PyData × PyData := (.str p.1, .int p.2)
inductive FD where
 | none
 | bool (b : Bool)
 | int (n : Int)
 | str (x : Str)
noncomputable def FD.v : FD -> V
 | .none => .non
 | .bool b => .bl b
 | .int n => .int n
 | .str x => .str x
noncomputable def FD.d : FD -> PyData
 | .none => .none
 | .bool b => .bool b
 | .int n => .int n
 | .str x => .str x
noncomputable def keyD : Key -> PyData
 | .inl i => .int i
 | .inr x => .str x
noncomputable def gE (p : Key × FD) : Key × V := (p.1, p.2.v)
noncomputable def gD (p : Key × FD) : PyData × PyData := (keyD p.1, p.2.d)
noncomputable def emb (p : Str × Int) : Key × FD := (Sum.inr p.1, FD.int p.2)
theorem emb_E (ν : List (Str × Int)) : (ν.map emb).map gE = ν.map kvE := by rw [List.map_map]; rfl
theorem emb_D (ν : List (Str × Int)) : (ν.map emb).map gD = ν.map kvD := by rw [List.map_map]; rfl
mutual
noncomputable def AtD (K : PySem.W.Frag) (H : Hp) (S : Addr -> Prop) : PyData -> V -> Prop
 | .none, v => v = .non
 | .bool b, v => v = .bl b
 | .int i, v => v = .int i
 | .str x, v => v = .str x
 | .list ds, v => ∃ a xs, v = .ref a /\ S a /\ H a = some (.lst xs) /\ qa0e K H S ds xs
 | .tuple ds, v => ∃ a xs, v = .ref a /\ SqT K H a xs /\ qa0e K H S ds xs
 | .dict kvs, v => ∃ (a : Addr) (κ : List (Key × FD)), v = .ref a /\ S a /\ H a = some (.dK (κ.map gE)) /\ kvs = κ.map gD
noncomputable def qa0e (K : PySem.W.Frag) (H : Hp) (S : Addr -> Prop) : List PyData -> List V -> Prop
 | [], vs => vs = []
 | d :: ds, vs => ∃ v r, vs = v :: r /\ AtD K H S d v /\ qa0e K H S ds r
end
noncomputable abbrev Any : Addr -> Prop := fun _ => True
noncomputable abbrev But (t : Addr) : Addr -> Prop := fun b => b ≠ t
noncomputable def Keep (S : Addr -> Prop) (H H' : Hp) : Prop := (∀ b xs, H b = some (.tup xs) -> H' b = some (.tup xs)) /\ (∀ b o u, H b = some (.frz o u) -> H' b = some (.frz o u)) /\ ∀ b o, S b -> H b = some o -> H' b = some o
section
variable {K : PySem.W.Frag} {H H' : Hp} {S S' : Addr -> Prop}
theorem Keep.refl (S : Addr -> Prop) (H : Hp) : Keep S H H := ⟨fun _ _ h => h, fun _ _ _ h => h, fun _ _ _ h => h⟩
theorem Keep.less (e : Keep S H H') (h : ∀ b, S' b -> S b) : Keep S' H H' := ⟨e.1, e.2.1, fun b xs s q => e.2.2 b xs (h b s) q⟩
theorem Same.keep (e : Same H H') : Keep S H H' := ⟨fun b xs h => e b _ h, fun b o xs h => e b _ h, fun b xs _ h => e b _ h⟩
theorem qe3o {p : Addr} {xs ys : List V} (h : H p = some (.lst xs)) : Keep (But p) H (upd H p (.lst ys)) :=
 ⟨fun b zs q => by rw [qa1j (qa5s q h (by intro z; cases z))]; exact q, fun b o zs q => by rw [qa1j (qa5s q h (by intro z; cases z))]; exact q, fun b zs hb q => by rw [qa1j hb]; exact q⟩
theorem Keep.seqT {a : Addr} {xs : List V} (e : Keep S H H') (h : SqT K H a xs) : SqT K H' a xs := by
 rcases h with (h | ⟨o, h⟩) | h
 ·exact .inl (.inl (e.1 _ _ h))
 ·exact .inl (.inr ⟨o, e.2.1 _ _ _ h⟩)
 ·exact .inr h
theorem qa2y {H : Hp} {p : Addr} (h : H p = none) (o : HO) : Same H (upd H p o) := fun b u q => by rw [qa1j (qa3y q h)]; exact q
mutual
theorem AtD.mono (e : Keep S H H') : ∀ (d : PyData) (v : V), AtD K H S d v -> AtD K H' S d v
 | .none, _, h => by unfold AtD at h ⊢; exact h
 | .bool _, _, h => by unfold AtD at h ⊢; exact h
 | .int _, _, h => by unfold AtD at h ⊢; exact h
 | .str _, _, h => by unfold AtD at h ⊢; exact h
 | .list ds, v, h => by
  unfold AtD at h ⊢
  obtain ⟨a, xs, e1, s, q, r⟩ := h
  exact ⟨a, xs, e1, s, e.2.2 _ _ s q, qa0e.mono e ds xs r⟩
 | .tuple ds, v, h => by
  unfold AtD at h ⊢
  obtain ⟨a, xs, e1, q, r⟩ := h
  exact ⟨a, xs, e1, e.seqT q, qa0e.mono e ds xs r⟩
 | .dict kvs, v, h => by
  unfold AtD at h ⊢
  obtain ⟨a, ν, e1, s, q, e2⟩ := h
  exact ⟨a, ν, e1, s, e.2.2 a _ s q, e2⟩
theorem qa0e.mono (e : Keep S H H') : ∀ (ds : List PyData) (vs : List V), qa0e K H S ds vs -> qa0e K H' S ds vs
 | [], _, h => by unfold qa0e at h ⊢; exact h
 | d :: ds, vs, h => by
  unfold qa0e at h ⊢
  obtain ⟨v, r, e1, h1, h2⟩ := h
  exact ⟨v, r, e1, AtD.mono e d v h1, qa0e.mono e ds r h2⟩
end
mutual
theorem AtD.more (e : ∀ b, S b -> S' b) : ∀ (d : PyData) (v : V), AtD K H S d v -> AtD K H S' d v
 | .none, _, h => by unfold AtD at h ⊢; exact h
 | .bool _, _, h => by unfold AtD at h ⊢; exact h
 | .int _, _, h => by unfold AtD at h ⊢; exact h
 | .str _, _, h => by unfold AtD at h ⊢; exact h
 | .list ds, v, h => by
  unfold AtD at h ⊢
  obtain ⟨a, xs, e1, s, q, r⟩ := h
  exact ⟨a, xs, e1, e a s, q, qa0e.more e ds xs r⟩
 | .tuple ds, v, h => by
  unfold AtD at h ⊢
  obtain ⟨a, xs, e1, q, r⟩ := h
  exact ⟨a, xs, e1, q, qa0e.more e ds xs r⟩
 | .dict kvs, v, h => by
  unfold AtD at h ⊢
  obtain ⟨a, ν, e1, s, q, e2⟩ := h
  exact ⟨a, ν, e1, e a s, q, e2⟩
theorem qa0e.more (e : ∀ b, S b -> S' b) : ∀ (ds : List PyData) (vs : List V), qa0e K H S ds vs -> qa0e K H S' ds vs
 | [], _, h => by unfold qa0e at h ⊢; exact h
 | d :: ds, vs, h => by
  unfold qa0e at h ⊢
  obtain ⟨v, r, e1, h1, h2⟩ := h
  exact ⟨v, r, e1, AtD.more e d v h1, qa0e.more e ds r h2⟩
end
mutual
noncomputable def qb1s : PyData -> Bool
 | .none => true | .bool _ => true | .int _ => true | .str _ => true
 | .list _ => false
 | .tuple ds => qc0b ds
 | .dict _ => false
noncomputable def qc0b : List PyData -> Bool
 | [] => true
 | d :: ds => qb1s d && qc0b ds
end
mutual
theorem AtD.tups : ∀ (d : PyData) (v : V), qb1s d = true -> AtD K H S d v -> AtD K H S' d v
 | .none, _, _, h => by unfold AtD at h ⊢; exact h
 | .bool _, _, _, h => by unfold AtD at h ⊢; exact h
 | .int _, _, _, h => by unfold AtD at h ⊢; exact h
 | .str _, _, _, h => by unfold AtD at h ⊢; exact h
 | .list ds, v, t, h => by unfold qb1s at t; cases t
 | .tuple ds, v, t, h => by
  unfold qb1s at t
  unfold AtD at h ⊢
  obtain ⟨a, xs, e1, q, r⟩ := h
  exact ⟨a, xs, e1, q, qa0e.tups ds xs t r⟩
 | .dict _, _, t, _ => by unfold qb1s at t; cases t
theorem qa0e.tups : ∀ (ds : List PyData) (vs : List V), qc0b ds = true -> qa0e K H S ds vs -> qa0e K H S' ds vs
 | [], _, _, h => by unfold qa0e at h ⊢; exact h
 | d :: ds, vs, t, h => by
  unfold qc0b at t
  rw [Bool.and_eq_true] at t
  unfold qa0e at h ⊢
  obtain ⟨v, r, e1, h1, h2⟩ := h
  exact ⟨v, r, e1, AtD.tups d v t.1 h1, qa0e.tups ds r t.2 h2⟩
end
theorem qa0e.nil : qa0e K H S [] [] := by unfold qa0e; rfl
theorem qa0e.cons {d : PyData} {ds : List PyData} {v : V} {vs : List V} (h : AtD K H S d v) (t : qa0e K H S ds vs) : qa0e K H S (d :: ds) (v :: vs) := by
 unfold qa0e; exact ⟨v, vs, rfl, h, t⟩
theorem qa0e.uncons {d : PyData} {ds : List PyData} {vs : List V} (h : qa0e K H S (d :: ds) vs) : ∃ v r, vs = v :: r /\ AtD K H S d v /\ qa0e K H S ds r := by
 unfold qa0e at h; exact h
theorem qa0e.unnil {vs : List V} (h : qa0e K H S [] vs) : vs = [] := by unfold qa0e at h; exact h
theorem qa0e.length : ∀ {ds : List PyData} {vs : List V}, qa0e K H S ds vs -> vs.length = ds.length
 | [], _, h => by rw [h.unnil]; rfl
 | d :: ds, vs, h => by
  obtain ⟨v, r, e, _, t⟩ := h.uncons
  rw [e, List.length_cons, List.length_cons, qa0e.length t]
theorem qa0e.get : ∀ {ds : List PyData} {vs : List V} {i : Nat} {d : PyData}, qa0e K H S ds vs -> ds[i]? = some d -> ∃ v, vs[i]? = some v /\ AtD K H S d v
 | [], _, i, d, _, e => by simp at e
 | d' :: ds, vs, 0, d, h, e => by
  obtain ⟨v, r, rfl, hd, t⟩ := h.uncons
  simp at e; subst e
  exact ⟨v, by simp, hd⟩
 | d' :: ds, vs, i + 1, d, h, e => by
  obtain ⟨v, r, rfl, hd, t⟩ := h.uncons
  obtain ⟨w, e1, e2⟩ := qa0e.get (i := i) t (by simpa using e)
  exact ⟨w, by simpa using e1, e2⟩
theorem qa0e.append : ∀ {ds es : List PyData} {vs ws : List V}, qa0e K H S ds vs -> qa0e K H S es ws -> qa0e K H S (ds ++ es) (vs ++ ws)
 | [], _, _, _, h, t => by rw [h.unnil]; exact t
 | d :: ds, es, vs, ws, h, t => by
  obtain ⟨v, r, rfl, hd, q⟩ := h.uncons
  exact .cons hd (qa0e.append q t)
theorem qa0e.snoc {ds : List PyData} {vs : List V} {d : PyData} {v : V} (h : qa0e K H S ds vs) (hd : AtD K H S d v) : qa0e K H S (ds ++ [d]) (vs ++ [v]) := h.append (.cons hd .nil)
theorem qa0e.drop : ∀ {ds : List PyData} {vs : List V} (n : Nat), qa0e K H S ds vs -> qa0e K H S (ds.drop n) (vs.drop n)
 | _, _, 0, h => by simpa using h
 | [], vs, n + 1, h => by rw [h.unnil]; exact .nil
 | d :: ds, vs, n + 1, h => by
  obtain ⟨v, r, rfl, hd, q⟩ := h.uncons
  exact qa0e.drop n q
theorem qa0e.take : ∀ {ds : List PyData} {vs : List V} (n : Nat), qa0e K H S ds vs -> qa0e K H S (ds.take n) (vs.take n)
 | _, _, 0, h => by simpa using qa0e.nil
 | [], vs, n + 1, h => by rw [h.unnil]; exact .nil
 | d :: ds, vs, n + 1, h => by
  obtain ⟨v, r, rfl, hd, q⟩ := h.uncons
  exact .cons hd (qa0e.take n q)
theorem qa0e.reverse : ∀ {ds : List PyData} {vs : List V}, qa0e K H S ds vs -> qa0e K H S ds.reverse vs.reverse
 | [], _, h => by rw [h.unnil]; exact .nil
 | d :: ds, vs, h => by
  obtain ⟨v, r, rfl, hd, q⟩ := h.uncons
  rw [List.reverse_cons, List.reverse_cons]
  exact (qa0e.reverse q).snoc hd
theorem qa0e.set : ∀ {ds : List PyData} {vs : List V} (i : Nat) {d : PyData} {v : V}, qa0e K H S ds vs -> AtD K H S d v -> qa0e K H S (ds.set i d) (vs.set i v)
 | [], _, i, d, v, h, _ => by rw [h.unnil]; exact .nil
 | d' :: ds, vs, 0, d, v, h, hd => by
  obtain ⟨v', r, rfl, _, q⟩ := h.uncons
  exact .cons hd q
 | d' :: ds, vs, i + 1, d, v, h, hd => by
  obtain ⟨v', r, rfl, h', q⟩ := h.uncons
  exact .cons h' (qa0e.set i q hd)
theorem qb1t : AtD K H S .none .non := by unfold AtD; rfl
theorem qa2n (b : Bool) : AtD K H S (.bool b) (.bl b) := by unfold AtD; rfl
theorem qa3t (i : Int) : AtD K H S (.int i) (.int i) := by unfold AtD; rfl
theorem qa9a (x : Str) : AtD K H S (.str x) (.str x) := by unfold AtD; rfl
theorem qc0c {v : V} (h : AtD K H S .none v) : v = .non := by unfold AtD at h; exact h
theorem qb1g {b : Bool} {v : V} (h : AtD K H S (.bool b) v) : v = .bl b := by unfold AtD at h; exact h
theorem qb8d {i : Int} {v : V} (h : AtD K H S (.int i) v) : v = .int i := by unfold AtD at h; exact h
theorem qb8e {x : Str} {v : V} (h : AtD K H S (.str x) v) : v = .str x := by unfold AtD at h; exact h
theorem qa5z {ds : List PyData} {v : V} (h : AtD K H S (.tuple ds) v) : ∃ a xs, v = .ref a /\ SqT K H a xs /\ qa0e K H S ds xs := by unfold AtD at h; exact h
theorem qa6k {ds : List PyData} {v : V} (h : AtD K H S (.list ds) v) : ∃ a xs, v = .ref a /\ S a /\ H a = some (.lst xs) /\ qa0e K H S ds xs := by unfold AtD at h; exact h
theorem qa6d {ds : List PyData} {a : Addr} {xs : List V} (q : SqT K H a xs) (h : qa0e K H S ds xs) : AtD K H S (.tuple ds) (.ref a) := by unfold AtD; exact ⟨a, xs, rfl, q, h⟩
theorem qa5l {ds : List PyData} {a : Addr} {xs : List V} (s : S a) (q : H a = some (.lst xs)) (h : qa0e K H S ds xs) : AtD K H S (.list ds) (.ref a) := by unfold AtD; exact ⟨a, xs, rfl, s, q, h⟩
theorem qb1h {kvs : List (PyData × PyData)} {v : V} (h : AtD K H S (.dict kvs) v) : ∃ (a : Addr) (κ : List (Key × FD)), v = .ref a /\ S a /\ H a = some (.dK (κ.map gE)) /\ kvs = κ.map gD := by unfold AtD at h; exact h
theorem qa9x {κ : List (Key × FD)} {a : Addr} (s : S a) (q : H a = some (.dK (κ.map gE))) : AtD K H S (.dict (κ.map gD)) (.ref a) := by unfold AtD; exact ⟨a, κ, rfl, s, q, rfl⟩
theorem qc8t {ν : List (Str × Int)} {a : Addr} (s : S a) (q : H a = some (.dK (ν.map kvE))) : AtD K H S (.dict (ν.map kvD)) (.ref a) := by
 rw [← emb_D]
 rw [← emb_E] at q
 exact qa9x s q
theorem qc1g {ds : List PyData} {p : Addr} {xs : List V} (hp : H p = none) (h : qa0e K H S ds xs) : AtD K (upd H p (.tup xs)) S (.tuple ds) (.ref p) :=
 qa6d (SqT.of qa0z) (qa0e.mono (qa2y hp _).keep _ _ h)
theorem qc8u {ds : List PyData} {p : Addr} {xs : List V} (s : S p) (hp : H p = none) (h : qa0e K H S ds xs) : AtD K (upd H p (.lst xs)) S (.list ds) (.ref p) :=
 qa5l s qa0z (qa0e.mono (qa2y hp _).keep _ _ h)
end
theorem qc2r {P : Program} {w : World} (h : Heap) : ∀ {κ : List (Key × FD)} {vs : List (Key × Value)} {es : List DictEntry}, KV (κ.map gE) vs -> Pairs (qa4m P w) es vs -> ReadsAll h (es.map (·.key)) ((κ.map gD).map (·.1)) [] /\ ReadsAll h (es.map (·.val)) ((κ.map gD).map (·.2)) []
 | [], _, _, r, q => by
  cases r
  cases q
  exact ⟨.nil, .nil⟩
 | (k, f) :: κ, _, _, r, q => by
  cases r with
  | cons r1 r2 =>
   cases q with
   | cons q1 q2 q3 =>
    obtain ⟨a, b⟩ := qc2r h r2 q3
    rename_i kv _ e _
    obtain ⟨kk, kv2⟩ := kv
    obtain ⟨e1, e2⟩ := r1
    cases e1
    have hk : Reads h e.key (keyD k) [] := by
     rcases qa3a (show qb4w k e.key = true from q1) with ⟨i, t, e', h'⟩ | ⟨x, t, e', h'⟩
     ·rw [e', h']; exact .int i t
     ·rw [e', h']; exact .str x t
    have hv : Reads h kv2 f.d [] := by
     cases f with
     | none => have e2' : kv2 = Value.none := e2; rw [e2']; exact .none
     | bool b => have e2' : kv2 = Value.bool b := e2; rw [e2']; exact .bool b
     | int n => obtain ⟨t, e2'⟩ := e2; have e3 : kv2 = Value.int n t := e2'; rw [e3]; exact .int n t
     | str x => obtain ⟨t, e2'⟩ := e2; have e3 : kv2 = Value.str x t := e2'; rw [e3]; exact .str x t
    refine ⟨?_, ?_⟩
    ·show ReadsAll h (e.key :: _) _ _
     exact .cons hk a
    ·show ReadsAll h (e.val :: _) _ _
     rw [q2]; exact .cons hv b
section
variable {X : Cx} {pins : List (Addr × Obj)} {σ : St} {H : Hp} {s : Shared} {S : Addr -> Prop}
mutual
theorem AtD.reads (I : Inv X pins σ H s) : ∀ (d : PyData) (v : V) (u : Value), AtD X.K H S d v -> RelV v u -> ∃ as, Reads s.heap u d as
 | .none, v, u, h, r => by cases qc0c h; cases r; exact ⟨_, .none⟩
 | .bool b, v, u, h, r => by cases qb1g h; cases r; exact ⟨_, .bool b⟩
 | .int i, v, u, h, r => by cases qb8d h; obtain ⟨t, rfl⟩ := r; exact ⟨_, .int i t⟩
 | .str x, v, u, h, r => by cases qb8e h; obtain ⟨t, rfl⟩ := r; exact ⟨_, .str x t⟩
 | .list ds, v, u, h, r => by
  obtain ⟨a, xs, rfl, _, q, t⟩ := qa6k h
  cases r
  obtain ⟨its, rv, ⟨o, n, e, hc, _, hd⟩, _⟩ := I.list (SqL.of q)
  obtain ⟨as, ra⟩ := qa0e.reads I ds xs its t rv
  exact ⟨_, .list e hc hd (by simpa using ra)⟩
 | .tuple ds, v, u, h, r => by
  obtain ⟨a, xs, rfl, q, t⟩ := qa5z h
  cases r
  obtain ⟨its, rv, ⟨o, e, hc, n, hd⟩, _⟩ := I.tuple q
  obtain ⟨as, ra⟩ := qa0e.reads I ds xs its t rv
  exact ⟨_, .tuple e hc hd (by simpa using ra)⟩
 | .dict kvs, v, u, h, r => by
  obtain ⟨a, ν, rfl, _, q, rfl⟩ := qb1h h
  cases r
  obtain ⟨_, _, vs, kv, o, es, ep, e, hc, hd, _, hp, _⟩ := (show qa3s X.prog X.w H s.heap a (.dK (ν.map gE)) from I.hok a _ q)
  obtain ⟨r1, r2⟩ := qc2r s.heap kv hp
  exact ⟨_, .dict e hc.1 hd r1 r2⟩
theorem qa0e.reads (I : Inv X pins σ H s) : ∀ (ds : List PyData) (vs : List V) (us : List Value), qa0e X.K H S ds vs -> Vals vs us -> ∃ as, ReadsAll s.heap us ds as
 | [], vs, us, h, r => by
  cases h.unnil
  cases r
  exact ⟨_, .nil⟩
 | d :: ds, vs, us, h, r => by
  obtain ⟨v, vr, rfl, hd, t⟩ := h.uncons
  cases r with
  | cons r1 r2 =>
   obtain ⟨as, q1⟩ := AtD.reads I d v _ hd r1
   obtain ⟨bs, q2⟩ := qa0e.reads I ds vr _ t r2
   exact ⟨_, .cons q1 q2⟩
end
end
section
variable {X : Cx}
theorem qd8j {K : PySem.W.Frag} {H : Hp} {S : Addr -> Prop} {ds : List PyData} {xs : List V} {i : Int} {d : PyData} (h : qa0e K H S ds xs) (e : atI ds i = some d) : ∃ v, atI xs i = some v /\ AtD K H S d v := by
 unfold atI at e ⊢
 rw [h.length]
 cases q : ixN ds.length i with
 | none => rw [q] at e; cases e
 | some j =>
  rw [q] at e
  obtain ⟨v, e1, e2⟩ := h.get (show ds[j]? = some d from e)
  exact ⟨v, e1, e2⟩
noncomputable def rEqD (K : PySem.W.Frag) (neg : Bool) : R2 := fun x y H Q => ∃ S S' d e, AtD K H S d x /\ AtD K H S' e y /\ SeqAt.shaped d = true /\ SeqAt.shaped e = true /\ Q (.bl (if neg then !PyData.eqv d e else PyData.eqv d e)) H
theorem op_eqD (hu : X.A.units + 64 < cLine) : OpR X (compareOp .Eq) (rEqD X.K false) := by
 intro pins s σ H x y v u Q I rx ry h
 obtain ⟨S, S', d, e, hd, he, sd, se, q⟩ := h
 obtain ⟨as, ra⟩ := AtD.reads I d x v hd rx
 obtain ⟨bs, rb⟩ := AtD.reads I e y u he ry
 exact SeqAt.compareEq_shaped ra rb sd se hu ⟨.bl _, H, I, rfl, q⟩
theorem op_neD (hu : X.A.units + 64 < cLine) : OpR X (compareOp .NotEq) (rEqD X.K true) := by
 intro pins s σ H x y v u Q I rx ry h
 obtain ⟨S, S', d, e, hd, he, sd, se, q⟩ := h
 obtain ⟨as, ra⟩ := AtD.reads I d x v hd rx
 obtain ⟨bs, rb⟩ := AtD.reads I e y u he ry
 exact SeqAt.compareNe_shaped ra rb sd se hu ⟨.bl _, H, I, rfl, q⟩
noncomputable def tyD : PyData -> String
 | .none => "NoneType" | .bool _ => "bool" | .int _ => "int" | .str _ => "str" | .list _ => "list" | .tuple _ => "tuple" | .dict _ => "dict"
noncomputable def isD (T : String) (d : PyData) : Bool := tyD d == T || (T == "int" && tyD d == "bool")
theorem pe_ty {x : Str} {T : String} {pos : Pos} (hg : Gl X x) (hm : X.mg x = none) (hv : bootBuiltins x = some (.type T)) (hn : x ≠ "__name__" := by decide) (hd : (x == ("__debug__" : Str)) = false := by decide) : PE X (.Name x pos) (tC (.ty T)) :=
 pe_bltn hg hm hv rfl hn hd
theorem qe5r {pins : List (Addr × Obj)} {s : Shared} {σ : St} {H : Hp} {S : Addr -> Prop} {d : PyData} {v : V} {u : Value} {T : String} {Q : VK} (I : Inv X pins σ H s) (h : AtD X.K H S d v) (r : RelV v u)
  (ht : PySem.W.kitOne X.K (.type (tyD d)) (.type T) = some (isD T d)) (q : Q (.bl (isD T d)) H) :
  wpAny (model X.prog X.w) X.A (call (.builtin "isinstance") [u, .type T]) (EP X pins σ Q) X.xe s := by
 have fin : ∀ tk, EP X pins σ Q (.bool (isD T d)) { s with toks := tk } := fun tk => ⟨.bl _, H, I.tok tk, rfl, q⟩
 cases d with
 | none => cases qc0c h; cases r; exact PySem.W.kia_one PySem.W.kitx_none I.kIn True.intro ht (fun z => nomatch z) fin
 | bool b => cases qb1g h; cases r; exact PySem.W.kia_one PySem.W.kitx_bool I.kIn True.intro ht (fun z => nomatch z) fin
 | int i => cases qb8d h; obtain ⟨t, rfl⟩ := r; exact PySem.W.kia_one PySem.W.kitx_int I.kIn True.intro ht (fun z => nomatch z) fin
 | str x => cases qb8e h; obtain ⟨t, rfl⟩ := r; exact PySem.W.kia_one PySem.W.kitx_str I.kIn True.intro ht (fun z => nomatch z) fin
 | list ds =>
  obtain ⟨a, xs, rfl, _, hq, _⟩ := qa6k h
  cases r
  obtain ⟨its, _, ⟨o, n, e, hc, _, hd⟩, _⟩ := I.list (SqL.of hq)
  exact PySem.W.kia_one PySem.W.kitx_list I.kIn ⟨o, e, hc⟩ ht (fun z => nomatch z) fin
 | tuple ds =>
  obtain ⟨a, xs, rfl, hq, _⟩ := qa5z h
  cases r
  obtain ⟨its, _, ⟨o, e, hc, n, hd⟩, _⟩ := I.tuple hq
  exact PySem.W.kia_one PySem.W.kitx_tuple I.kIn ⟨o, e, hc⟩ ht (fun z => nomatch z) fin
 | dict kvs =>
  obtain ⟨a, ν, rfl, _, hq, rfl⟩ := qb1h h
  cases r
  obtain ⟨_, _, vs, kv, o, es, ep, e, hc, hd, _, hp, _⟩ := (show qa3s X.prog X.w H s.heap a (.dK (ν.map gE)) from I.hok a _ hq)
  exact PySem.W.kia_one PySem.W.kitx_dict I.kIn ⟨o, e, hc.1⟩ ht (fun z => nomatch z) fin
noncomputable def qa9b (T : String) : Bool := T == "int" || T == "str" || T == "bool" || T == "list" || T == "tuple" || T == "dict"
theorem kit_ok (K : PySem.W.Frag) (d : PyData) (T : String) (hT : qa9b T = true) : PySem.W.kitOne K (.type (tyD d)) (.type T) = some (isD T d) := by
 simp only [qa9b, Bool.or_eq_true, beq_iff_eq] at hT
 rcases hT with ((((rfl | rfl) | rfl) | rfl) | rfl) | rfl <;> cases d <;> rfl
theorem qe5s : qa3z X (.builtin "isinstance") (fun xs H Q => ∃ v S d T, xs = [v, .ty T] /\ AtD X.K H S d v /\ qa9b T = true /\ Q (.bl (isD T d)) H) := by
 intro pins s σ H xs us Q I rs h
 obtain ⟨v, S, d, T, rfl, hd, hT, q⟩ := h
 obtain ⟨u, u2, rfl, r1, r2⟩ := rs.two
 cases r2
 exact qe5r I hd r1 (kit_ok X.K d T hT) q
end
section
variable {X : Cx} {tg : Expr}
noncomputable def iDat (K : PySem.W.Frag) (tl : TE) : TI := fun σ H R => tl σ H fun x H1 => (∃ a, x = .ref a /\ (∃ xs, SqT K H1 a xs) /\ R (Itt K a) H1) ∨ (∃ a, x = .ref a /\ (∃ xs, SqL K H1 a xs) /\ R (Itl K a) H1)
theorem pi_dat {l : Expr} {tl : TE} (hl : PE X l tl) : PI X tg l (iDat X.K tl) := by
 intro pins s σ H R I h
 refine thn (hl pins s σ H (fun x H1 => (∃ a, x = .ref a /\ (∃ xs, SqT X.K H1 a xs) /\ R (Itt X.K a) H1) ∨ (∃ a, x = .ref a /\ (∃ xs, SqL X.K H1 a xs) /\ R (Itl X.K a) H1)) I h) fun v s1 ⟨x, H1, I1, r1, q1⟩ => ?_
 rcases q1 with ⟨a, rfl, ⟨xs, hq⟩, q⟩ | ⟨a, rfl, ⟨xs, hq⟩, q⟩
 ·cases r1
  obtain ⟨its, rv, p, hz⟩ := I1.tuple hq
  refine wpAny_pyIter_tuple (show s1.heap.IsTuple a its.toArray from p) ?_
  refine ⟨s1.heap.objs.size, [s1.heap.objs.size], _, _, H1, rfl, I1.kept (t' := s1.toks) fun b o e => Heap.get?_push_of_some _ e, qe0n a _, ⟨_, Heap.get?_push_size _ rfl, rfl, rfl⟩, fun b hb => ?_, q⟩
  have e : b = s1.heap.objs.size := by simpa using hb
  subst e
  exact I1.fpOk (Nat.le_refl _) (I1.hok.fresh (Nat.le_refl _))
 ·cases r1
  obtain ⟨its, rv, p, hz⟩ := I1.list hq
  refine wpAny_pyIter_list p.isList ?_
  refine ⟨s1.heap.objs.size, [s1.heap.objs.size], _, _, H1, rfl, I1.kept (t' := s1.toks) fun b o e => Heap.get?_push_of_some _ e, qe3e a _, ⟨_, Heap.get?_push_size _ rfl, rfl, rfl⟩, fun b hb => ?_, q⟩
  have e : b = s1.heap.objs.size := by simpa using hb
  subst e
  exact I1.fpOk (Nat.le_refl _) (I1.hok.fresh (Nat.le_refl _))
end
end L2
end
section
namespace L2
open PySem PySem.Spec PyProof.Rows
structure Def (K : PySem.W.Frag) (mg : Str -> Option Value) (x : Str) (st : Stmt) (ps : List Str) (f : Addr) (fd : FuncData) : Prop where
 fn : Fun K x x st f fd
 bd : Binds K fd ps []
 gl : mg x = some (.ref f)
section
variable {X : Cx} {k : Nat} {f : Addr} {fd : FuncData} {ps : List Str} {sp : Sp} {x : Str} {st : Stmt} {p pos : Pos} {e : Expr} {es : List Expr} {t : TA}
theorem qb5b (d : Def X.K X.mg x st ps f fd) (g : FnOk X.prog X.w X.K X.mg X.base CX0 k f fd ps sp) (hr : Room k X.A) (hg : Gl X x) (ha : PA X (e :: es) t) (hdb : (x == ("__debug__" : Str)) = false := by decide)
  (he : starEach (e :: es) X.env = (false, eval e X.env) :: starEach es X.env := by rfl) (hpl : (backTo pos (starEach es X.env)).any (·.1) = false := by rfl) : PE X (.Call (.Name x p) (e :: es) [] pos) (tCall sp [] E0 t) :=
 pe_call g hr hg d.gl d.fn.kp d.bd .nil pass0 ha hdb he hpl
end
section
variable {X : Cx} {tg : Expr}
end
section
variable {X : Cx}
end
end L2
namespace L2
open PySem PySem.Spec PyProof.Rows
noncomputable def Frs (S : Addr -> Prop) (H : Hp) : Prop := ∀ p, H p = none -> S p
section
variable {K : PySem.W.Frag} {S : Addr -> Prop} {σ : St} {H : Hp} {d : PyData} {ds : List PyData} {t te : TE} {ta : TA}
theorem atI_in {α : Type} {xs : List α} {i : Int} (h0 : 0 <= i) (h1 : i < xs.length) : ∃ x, atI xs i = some x /\ x ∈ xs /\ xs[i.toNat]? = some x := by
 have hk : i.toNat < xs.length := by omega
 have ei : i = ((i.toNat : Nat) : Int) := by omega
 have q : atI xs ((i.toNat : Nat) : Int) = some xs[i.toNat] := qb1f (List.getElem?_eq_getElem hk)
 rw [← ei] at q
 exact ⟨_, q, List.getElem_mem hk, List.getElem?_eq_getElem hk⟩
end
end L2
end
section
namespace L2
open PySem PySem.Spec PyProof.Rows
theorem qb4k : typeLookup (.type "tuple") "__reversed__" = pure none := by rw [typeLookup_type, builtinLookup_eq_fast]; kernel_rfl
theorem qa7u : typeLookup (.type "tuple") "__getitem__" = pure (some (.builtin "tuple.__getitem__")) := by rw [typeLookup_type, builtinLookup_eq_fast]; kernel_rfl
theorem sub_tuple_dict : isSubtype (.type "tuple") (.type "dict") = pure false := by rw [isSubtype_type]; kernel_rfl
theorem qb8f : Slot "reversed" "__init__" "object.__init__" :=
 .of (owner := "object") (n := "__init__") (by rw [typeLookup_type, builtinLookup_eq_fast]; kernel_rfl) (by decide +kernel) (by decide +kernel) (by decide +kernel)
  (by first | exact .inl (by decide +kernel) | exact .inr (by decide +kernel)) (by rw [isSubtype_type]; kernel_rfl)
theorem qc2s : TypeCalled "reversed" "reversed.__new__" "object.__init__" :=
 ⟨by decide +kernel, by decide +kernel, ⟨_, _, F.mro_reversed⟩, F.made_reversed, by decide +kernel, F.sub_reversed_self, qb8f⟩
theorem qa3p : Slot "reversed" "__next__" "reversed.__next__" :=
 .of (owner := "reversed") (n := "__next__") (by rw [typeLookup_type, builtinLookup_eq_fast]; kernel_rfl) (by decide +kernel) (by decide +kernel) (by decide +kernel)
  (by first | exact .inl (by decide +kernel) | exact .inr (by decide +kernel)) (by rw [isSubtype_type]; kernel_rfl)
theorem qa9y : Slot "reversed" "__iter__" "reversed.__iter__" :=
 .of (owner := "reversed") (n := "__iter__") (by rw [typeLookup_type, builtinLookup_eq_fast]; kernel_rfl) (by decide +kernel) (by decide +kernel) (by decide +kernel)
  (by first | exact .inl (by decide +kernel) | exact .inr (by decide +kernel)) (by rw [isSubtype_type]; kernel_rfl)
theorem qa8u : entryFor table "reversed.__next__" = some Builtin.«reversed.__next__» := entryFor_of_tree (by kernel_rfl)
theorem qb7r : entryFor table "reversed.__iter__" = some Builtin.«dict_keyiterator.__iter__» :=
 entryFor_alias (id' := "dict_keyiterator.__iter__") (by kernel_rfl) (by first | rfl | decide +kernel | (unfold String.splitOn; simp +decide [String.splitOnAux])) (by decide +kernel) (by kernel_rfl)
theorem qa9z (a : Value) : argsOk "reversed.__next__" ⟨[a], []⟩ := by unfold argsOk; kernel_rfl
theorem qb8g (a : Value) : argsOk "reversed.__iter__" ⟨[a], []⟩ := by unfold argsOk; kernel_rfl
section
variable {prog : Program} {w : World} {A : Around} {E : Value -> Shared -> Prop} {s : Shared}
noncomputable def revT (l : Addr) (i : Int) : Obj := { cls := .type "reversed", data := .fields #[.ref l, rawInt i] }
theorem IsTup.typeIs' {h : Heap} {a : Addr} {items : Array Value} {s : Shared} (e : s.heap = h) (x : IsTup h a items) : s.TypeIs (.ref a) "tuple" := by
 obtain ⟨o, ho, hc, _⟩ := x
 subst e
 exact ⟨o, ho, hc⟩
theorem qb5c {l : Addr} {items : Array Value} (hfit : (items.size : Int) < 2 ^ 63) :
  MeetsIn prog w (Builtin.«reversed.__new__» ⟨[.type "reversed", .ref l], []⟩) (fun A R s => IsTup s.heap l items /\ ∀ tk, R (.ok (.ret (Value.ref s.heap.objs.size))) { s with heap := s.heap.push (revT l ((items.size : Int) - 1)), toks := tk }) := by
 intro A R s ⟨ht, h⟩
 unfold Builtin.«reversed.__new__»
 refine wpAny_bind (wpAny_of_eq (newClass_reversed _) ?_)
 try dsimp only
 refine wpAny_bind (wpAny_of_eq (a := ()) (by first | rfl | kernel_rfl) ?_)
 refine wpAny_bind (wpAny_of_eq (a := ()) (by first | rfl | kernel_rfl) ?_)
 try dsimp only
 refine wpAny_bind (wpAny_specialOf (IsTup.typeIs' rfl ht) qb4k ?_)
 try dsimp only
 refine wpAny_bind ?_
 show wpAny _ _ (isInstance (.ref l) (.type "dict") >>= _) _ _ _
 refine wpAny_bind (wpAny_isInstance (IsTup.typeIs' rfl ht) sub_tuple_dict ?_)
 show wpAny _ _ (specialOf (.ref l) "__getitem__" >>= _) _ _ _
 refine wpAny_bind (wpAny_specialOf (IsTup.typeIs' rfl ht) qa7u ?_)
 refine wpAny_pure ?_
 show wpAny _ _ (call (Value.builtin "len") [Value.ref l] >>= _) _ _ _
 refine wpAny_bind (len_tuple ht hfit ?_)
 show wpAny _ _ (asInt? (Value.int _ _) >>= _) _ _ _
 refine wpAny_bind (wpAny_of_eq (a := some (items.size : Int)) (by rfl) ?_)
 show wpAny _ _ (Builtin.SmallTypes.newRecord (Value.type "reversed") [Value.ref l, rawInt ((items.size : Int) - 1)] >>= _) _ _ _
 refine wpAny_bind ?_
 show wpAny _ _ (newObj (Value.type "reversed") (.fields [Value.ref l, rawInt ((items.size : Int) - 1)].toArray)) _ _ _
 refine wpAny_newObj_type ?_
 exact wpAny_pure (h _)
theorem qb7s {l : Addr} {items : Array Value} {Q : Value -> Shared -> Prop} (ht : IsTup s.heap l items) (hfit : (items.size : Int) < 2 ^ 63)
  (h : ∀ tk, Q (.ref s.heap.objs.size) { s with heap := s.heap.push (revT l ((items.size : Int) - 1)), toks := tk }) : wpAny (model prog w) A (call (.type "reversed") [.ref l]) Q E s :=
 callType_newIn qc2s (by decide) (F.typeCall_reversed_1 _) (F.newCall_reversed_1 _) (fun obj => F.args_object_init_2 obj _) F.entry_reversed_new
  (qb5c hfit) ⟨ht, fun tk => ⟨⟨_, Heap.get?_push_size _ rfl, rfl⟩, h tk⟩⟩
theorem qc0n {it l : Addr} {i : Int} {Q : Value -> Shared -> Prop} (hit : s.heap.get? it = some (revT l i)) (h : Q (.ref it) s) : wpAny (model prog w) A (pyIter (.ref it)) Q E s := by
 have hT : s.TypeIs (.ref it) "reversed" := ⟨_, hit, rfl⟩
 refine wpAny_pyIter_slot hT qa9y (wpAny_call_entry qa9y hT qb7r ?_ (qb8g _))
 show wpAny _ _ (ret (.ref it)) _ _ s
 exact wpAny_pure ⟨_, rfl, "reversed", _, hT, qa3p.lookup, h⟩
theorem qc1h {it l : Addr} {i : Nat} {items : Array Value} {x : Value} {Q : Option Value -> Shared -> Prop} (hit : s.heap.get? it = some (revT l (i : Int))) (ht : IsTup s.heap l items) (hx : items[i]? = some x) (hne : l ≠ it) (hfit : (i : Int) < 2 ^ 63)
  (hQ : ∀ h' tk, h'.get? it = some (revT l ((i : Int) - 1)) -> Heap.SameBut it s.heap h' -> Q (some x) { s with heap := h', toks := tk }) : wpAny (model prog w) A (pyNext (.ref it)) Q E s := by
 have hT : s.TypeIs (.ref it) "reversed" := ⟨_, hit, rfl⟩
 unfold pyNext
 refine wpAny_bind (wpAny_attempt (wpAny_callSpecial?_slot (name := Str.ofString "__next__") hT qa3p
  (wpAny_call_entry qa3p hT qa8u ?_ (qa9z _))))
 unfold Builtin.«reversed.__next__»
 refine wpAny_bind (wpAny_of_eq (a := (Value.ref it, [])) rfl ?_)
 try dsimp only
 refine wpAny_bind (wpAny_field hit rfl (x := .ref l) rfl ?_)
 refine wpAny_bind (wpAny_field hit rfl (x := rawInt (i : Int)) rfl ?_)
 show wpAny _ _ (if (i : Int) < 0 then _ else _) _ _ s
 rw [if_neg (by omega)]
 show wpAny _ _ (specialOf (.ref l) "__getitem__" >>= _) _ _ _
 refine wpAny_bind (wpAny_specialOf (IsTup.typeIs' rfl ht) qa7u ?_)
 rw [if_neg (by decide)]
 refine wpAny_bind (wpAny_mkInt ?_)
 refine wpAny_bind (wpAny_attempt (getItem_tuple (j := i) (x := x) ht (by omega) hfit (by
  unfold seqIndex?
  have hlt : i < items.size := by
   by_cases q : i < items.size
   ·exact q
   ·rw [Array.getElem?_eq_none (by omega)] at hx; cases hx
  first | (rw [if_pos (by omega)]; simp; omega) | (simp; omega) | (split <;> simp_all <;> omega)) hx ?_))
 show wpAny _ _ (field (.ref it) 1 >>= _) _ _ _
 refine wpAny_bind (wpAny_field hit rfl (x := rawInt (i : Int)) rfl ?_)
 show wpAny _ _ (setField (.ref it) 1 (rawInt ((i : Int) - 1)) >>= _) _ _ _
 refine wpAny_bind (wpAny_setField hit rfl (by simp) ?_)
 refine wpAny_pure ⟨x, rfl, wpAny_pure (hQ _ _ ?_ (Heap.SameBut.update ..))⟩
 exact Heap.get?_update_self _ hit rfl
theorem qc2t {it l : Addr} {Q : Option Value -> Shared -> Prop} (hh : A.handled = none) (hit : s.heap.get? it = some (revT l (-1)))
  (hQ : ∀ h', Heap.ExtBut it s.heap h' -> Q none { s with heap := h' }) : wpAny (model prog w) A (pyNext (.ref it)) Q E s := by
 have hT : s.TypeIs (.ref it) "reversed" := ⟨_, hit, rfl⟩
 unfold pyNext
 refine wpAny_bind (wpAny_attempt (wpAny_callSpecial?_slot (name := Str.ofString "__next__") hT qa3p
  (wpAny_call_entry qa3p hT qa8u ?_ (qa9z _))))
 unfold Builtin.«reversed.__next__»
 refine wpAny_bind (wpAny_of_eq (a := (Value.ref it, [])) rfl ?_)
 try dsimp only
 refine wpAny_bind (wpAny_field hit rfl (x := .ref l) rfl ?_)
 refine wpAny_bind (wpAny_field hit rfl (x := rawInt (-1)) rfl ?_)
 show wpAny _ _ (if (-1 : Int) < 0 then _ else _) _ _ s
 rw [if_pos (by decide)]
 refine wpAny_bind (wpAny_rule ?_)
 refine wpAny_bind ?_
 show wpAny _ _ (setField (.ref it) 1 (rawInt (-1)) >>= _) _ _ _
 refine wpAny_bind (wpAny_setField hit rfl (by simp) ?_)
 have h2 : (s.heap.update it (Obj.mapFields fun vs => vs.setIfInBounds 1 (rawInt (-1)))).get? it = some (revT l (-1)) := by
  exact Heap.get?_update_self _ hit rfl
 refine wpAny_setField h2 rfl (by simp) ?_
 show wpAny _ _ ((newExc (.type "StopIteration") [] >>= _) >>= _) _ _ _
 refine wpAny_bind ?_
 refine wpAny_bind ?_
 simp only [newExc, newTuple]
 refine wpAny_bind (wpAny_newObj_type ?_ (by size_fits))
 refine wpAny_bind (m := firstArgMember _ _) (wpAny_of_eq (a := Value.none) (by first | rfl | (simp only [firstArgMember]; rfl)) ?_)
 refine wpAny_newObj_type ?_ (by size_fits)
 simp only [raiseNew]
 refine wpAny_bind (wpAny_handled ?_)
 first | rw [show A.in1.handled = none from hh] | rw [hh]
 refine wpAny_bind (wpAny_pure (wpAny_throw ?_))
 refine wpAny_bind (wpAny_isInstance (T := "StopIteration") (b := true) ⟨_, Heap.get?_push_size _ rfl, rfl⟩ isSubtype_stop ?_)
 refine wpAny_pure (hQ _ ?_)
 refine ((?_ : Heap.ExtBut it s.heap _).push _).push _
 intro b o hb e
 rw [Heap.get?_update_other _ _ (Ne.symm hb), Heap.get?_update_other _ _ (Ne.symm hb)]
 exact e
end
noncomputable def Itrv (K : PySem.W.Frag) (a : Addr) (n : Nat) : It :=
 ⟨fun i H => ∃ xs x, SqT K H a xs /\ xs.length = n /\ xs.reverse[i]? = some x, fun i H x H' => H' = H /\ ∀ xs, SqT K H a xs -> xs.reverse[i]? = some x, fun i _ => n = i⟩
theorem rev_at {α : Type} {xs : List α} {i : Nat} {x : α} (h : xs.reverse[i]? = some x) : xs[xs.length - 1 - i]? = some x /\ i < xs.length := by
 have hi : i < xs.reverse.length := (List.getElem?_eq_some_iff.mp h).1
 rw [List.length_reverse] at hi
 rw [List.getElem?_reverse hi] at h
 exact ⟨h, hi⟩
theorem qe5t {P : Program} {w : World} {K : PySem.W.Frag} {tg : Expr} (a it : Addr) (n : Nat) (hn : n <= sizeLine) : Turn P w K tg (Itrv K a n) [it] it (fun i h => h.get? it = some (revT a ((n : Int) - 1 - (i : Nat)))) where
 mem := by simp
 obj := fun i h st b hb => by
  have e : b = it := by simpa using hb
  subst e
  exact ⟨_, st, fun v z => by
   have z' : Data.fields _ = Data.cell v := z
   cases z'⟩
 keep := fun i h h' st k => k it (by simp) _ st
 item := by
  intro X hP hw hK hc i pins s σ H E I hf st hg
  subst hP hw hK
  obtain ⟨f0, f1, f2, f3, f4, f5⟩ := hf it (by simp)
  obtain ⟨xs, x, hq, hl, hx⟩ := hg
  obtain ⟨its, rv, pl, hz⟩ := I.tuple hq
  obtain ⟨hx', hi⟩ := rev_at hx
  obtain ⟨u, hu, ru⟩ := rv.get hx'
  have e0 : (n : Int) - 1 - (i : Nat) = ((xs.length - 1 - i : Nat) : Int) := by omega
  have ne : a ≠ it := by
   rintro rfl
   obtain ⟨o, ho, hco, _⟩ := pl
   rw [st] at ho
   cases ho
   exact absurd hco (by show ¬ (Value.type "reversed" = Value.type "tuple"); decide)
  refine qc1h (l := a) (i := xs.length - 1 - i) (items := its.toArray) (x := u) (by rw [← e0]; exact st) pl (by simpa using hu) ne ?_ fun h' tk st' sb => ?_
  ·have := qa7r; omega
  ·have I1 : Inv X pins σ H { s with heap := h', toks := tk } := I.turned (fun b o hb e => (sb.2 b hb).trans e) f0 f1 f3 f4 f5
   have st2 : h'.get? it = some (revT a ((n : Int) - 1 - ((i + 1 : Nat) : Int))) := by
    rw [st']; congr 2; omega
   refine ⟨u, rfl, go_of (s := { s with heap := h', toks := tk }) (n := "reversed") st2 rfl rfl (by decide) ⟨x, H, I1, ru, ⟨rfl, fun ys hys => ?_⟩, st2, fun b hb => (hf b hb).1⟩⟩
   rw [I.tuple_inj hys hq]; exact hx
 done := by
  intro X hP hw hK hc i pins s σ H E I hf st hg
  subst hP hw hK
  obtain ⟨f0, f1, f2, f3, f4, f5⟩ := hf it (by simp)
  have e : n = i := hg
  have st' : s.heap.get? it = some (revT a (-1)) := by rw [st]; congr 2; omega
  exact qc2t (I.ok.hd hc) st' fun h' eb => ⟨rfl, I.turned (t' := s.toks) (fun b o hb e => eb b o hb e) f0 f1 f3 f4 f5⟩
 self := fun _ _ _ _ _ st h => qc0n st h
section
variable {X : Cx} {tg : Expr}
noncomputable def iRev (K : PySem.W.Frag) (tl : TE) : TI := fun σ H R => tl σ H fun x H1 => ∃ a xs, x = .ref a /\ SqT K H1 a xs /\ R (Itrv K a xs.length) H1
theorem pi_rev {l : Expr} {tl : TE} {p pos : Pos} (hg : Gl X "reversed") (hm : X.mg "reversed" = none) (hl : PE X l tl) (hs : starEach [l] X.env = [(false, eval l X.env)] := by rfl) : PI X tg (.Call (.Name "reversed" p) [l] [] pos) (iRev X.K tl) := by
 intro pins s σ H R I h
 refine Call_ (qb1l I hg hm qd4l (PyProof.Rows.callWith_type1 (thn ((qa2g (t := tNil) hl qa5k hs) pos pins s σ H (fun vs H1 => match vs with | [x] => (∃ a xs, x = .ref a /\ SqT X.K H1 a xs /\ R (Itrv X.K a xs.length) H1) | _ => False) I ?_) fun us s1 ⟨vs, H1, I1, r1, q1⟩ => ?_) hs rfl))
 ·exact h
 ·cases r1 with
  | nil => exact q1.elim
  | cons r rr =>
   cases rr with
   | cons _ _ => exact q1.elim
   | nil =>
   obtain ⟨a, xs, rfl, hq, q⟩ := q1
   cases r
   obtain ⟨its, rv, pl, hz⟩ := I1.tuple hq
   have hlen := rv.length
   refine qb7s pl (by have := qa7r; rw [List.size_toArray]; omega) fun tk => ?_
   have I2 : Inv X pins σ H1 { s1 with heap := s1.heap.push (revT a ((its.toArray.size : Int) - 1)), toks := tk } := I1.kept fun b o e => Heap.get?_push_of_some _ e
   have st : ({ s1 with heap := s1.heap.push (revT a ((its.toArray.size : Int) - 1)), toks := tk } : Shared).heap.get? s1.heap.objs.size = some (revT a ((xs.length : Int) - 1 - ((0 : Nat) : Int))) := by
    have e : (its.toArray.size : Int) - 1 = (xs.length : Int) - 1 - ((0 : Nat) : Int) := by rw [List.size_toArray]; omega
    rw [← e]; exact Heap.get?_push_size _ rfl
   refine qc0n st ⟨s1.heap.objs.size, [s1.heap.objs.size], _, _, H1, rfl, I2, qe5t a _ xs.length hz, st, fun b hb => ?_, q⟩
   have e : b = s1.heap.objs.size := by simpa using hb
   subst e
   exact I1.fpOk (Nat.le_refl _) (I1.hok.fresh (Nat.le_refl _))
end
end L2
end
section
namespace L2
open PySem PySem.Spec PyProof.Rows
inductive Ents (w : World) : List DictEntry -> List (Str × V) -> Prop where
 | nil : Ents w [] []
 | cons {x : Str} {t : Tok} {u : Value} {v : V} {es : List DictEntry} {kvs : List (Str × V)} : RelV v u -> Ents w es kvs -> Ents w (⟨PyData.keyHash w.params x, .str x t, u⟩ :: es) ((x, v) :: kvs)
noncomputable def KDict (K : PySem.W.Frag) (w : World) (a : Addr) (kvs : List (Str × V)) : Prop := (kvs.map (·.1)).Nodup /\ ∃ (es : Array DictEntry) (ep : Nat), K.lookup a = some ⟨.type "dict", none, .dict es ep, #[]⟩ /\ Ents w es.toList kvs
theorem Ents.pairs {prog : Program} {w : World} {es : List DictEntry} {kvs : List (Str × V)} (h : Ents w es kvs) : ∃ vs : List (Str × Value), Pairs (strKind prog w) es vs /\ KV kvs vs /\ (∀ e ∈ es, ∃ x t, e.key = .str x t /\ e.hash = hashStr w x) := by
 induction h with
 | nil => exact ⟨[], .nil, .nil, fun e he => by cases he⟩
 | @cons x t u v es kvs r _ ih =>
  obtain ⟨vs, p, q, k⟩ := ih
  refine ⟨(x, u) :: vs, .cons (strKind_is prog w x t) rfl p, .cons ⟨rfl, r⟩ q, fun e he => ?_⟩
  rcases List.mem_cons.mp he with rfl | he
  ·exact ⟨x, t, rfl, rfl⟩
  ·exact k e he
theorem KV.look {kvs : List (Str × V)} {vs : List (Str × Value)} (h : KV kvs vs) : (kvs.map (·.1)) = (vs.map (·.1)) /\ ∀ x v, kvs.lookup x = some v -> ∃ u, valueAt vs x = some u /\ RelV v u := by
 induction h with
 | nil => exact ⟨rfl, fun x v e => by cases e⟩
 | @cons p q kvs vs r _ ih =>
  obtain ⟨x, v⟩ := p
  obtain ⟨y, u⟩ := q
  obtain ⟨e, rv⟩ := r
  have e' : x = y := e
  subst e'
  refine ⟨by rw [List.map_cons, List.map_cons, ih.1], fun z w' hz => ?_⟩
  rw [List.lookup_cons] at hz
  by_cases hzx : z = x
  ·subst hzx
   simp at hz
   subst hz
   exact ⟨u, by simp [valueAt], rv⟩
  ·have : (z == x) = false := beq_eq_false_iff_ne.mpr hzx
   rw [this] at hz
   obtain ⟨u', h1, h2⟩ := ih.2 z w' hz
   refine ⟨u', ?_, h2⟩
   unfold valueAt at h1 ⊢
   rw [List.find?_cons_of_neg (by simpa using fun q => hzx q.symm)]
   exact h1
section
variable {X : Cx}
noncomputable def rIxK (K : PySem.W.Frag) (w : World) : R2 := fun x y H Q => ∃ a kvs z v, x = .ref a /\ KDict K w a kvs /\ y = .str z /\ kvs.lookup z = some v /\ Q v H
theorem qe5u : IxR X (rIxK X.K X.w) := by
 intro value slice pins s σ H x y v u Q I rx ry h hs
 obtain ⟨a, kvs, z, v', rfl, ⟨hnd, es, ep, hk, he⟩, rfl, hl, q⟩ := h
 cases rx
 obtain ⟨t, rfl⟩ := ry
 have ho := I.kIn a _ hk
 obtain ⟨vs, hp, hkv, hkeys⟩ := he.pairs (prog := X.prog)
 obtain ⟨e1, hlook⟩ := KV.look hkv
 obtain ⟨u', hu, ru⟩ := hlook z v' hl
 have hd : s.heap.DictOf (strKind X.prog X.w) a vs := by
  refine ⟨_, es, ep, ho, ⟨rfl, rfl, rfl⟩, rfl, ?_, hp, by rw [← e1]; exact hnd⟩
  intro e hm
  obtain ⟨x', t', e2, e3⟩ := hkeys e (by simpa using hm)
  exact ⟨x', by rw [e2]; exact strKind_is X.prog X.w x' t', e3⟩
 have fin : ∀ s', Inv X pins σ H s' -> EP X pins σ Q u' s' := fun s' I' => ⟨v', H, I', ru, q⟩
 exact subscriptTail_builtinR (x := u') (T := "dict") ⟨_, ho, rfl⟩ PySem.F.slot_dict_getitem.lookup
  (wpAny_getItem_of (Q := fun r s' => r = u' /\ EP X pins σ Q r s') (strKind_is X.prog X.w z t) hd.mapOf hu ⟨rfl, fin _ (I.tok _)⟩) hs
end
end L2
end
section
namespace L2
open PySem PySem.Spec PyProof.Rows
inductive L where
 /-- data that nobody changes any more -/
 | d (x : PyData)
 /-- a list that this name alone has -/
 | own (xs : List PyData)
 /-- a list of a caller's, lent to be changed -/
 | bor (xs : List PyData)
 /-- the tape: the script and how many draws were made -/
 | tape (k : Nat)
 /-- the script -/
 | scr
noncomputable abbrev Rho := List (Option L)
noncomputable abbrev Own := Nat -> Option Addr
structure Rc where
 H0 : Hp
 S : Addr -> Prop
 P : Addr -> Prop
 M : Addr -> Prop
 A : Addr -> Prop
 B : Addr -> Prop
 lent : Own
 sa : Addr
 ns : List Int
noncomputable def isIO : L -> Bool
 | .bor _ => true
 | .tape _ => true
 | _ => false
noncomputable def live (c : Rc) (O : Own) : Addr -> Prop := fun a => c.S a /\ ¬ c.P a /\ ∀ i, O i ≠ some a
noncomputable def qb0z (c : Rc) (p : Addr) : Prop := ¬ c.B p /\ c.S p /\ ¬ c.P p
noncomputable def Scr (K : PySem.W.Frag) (H : Hp) (a : Addr) (xs : List V) : Prop := xs.length <= 63 /\
 ((∃ o, H a = some (.frz o (.lst xs))) ∨ ∃ (o : Obj) (its : Array Value) (n : Nat), K.lookup a = some o /\ o.cls = .type "list" /\ o.dict = none /\ o.data = .seq its n /\ its.size <= sizeLine /\ Vals xs its.toList)
theorem Scr.seq {K : PySem.W.Frag} {H : Hp} {a : Addr} {xs : List V} (h : Scr K H a xs) : SqL K H a xs := by
 rcases h.2 with ⟨o, h⟩ | h
 ·exact .inl (.inr ⟨o, h⟩)
 ·exact .inr h
structure Rel (K : PySem.W.Frag) (c : Rc) (O : Own) (ρ : Rho) (σ : St) (H : Hp) : Prop where
 dat : ∀ (i : Nat) (x : PyData), ρ[i]? = some (some (L.d x)) -> ∃ v, σ[i]? = some (some v) /\ AtD K H (live c O) x v
 own : ∀ (i : Nat) (xs : List PyData), ρ[i]? = some (some (.own xs)) -> ∃ p vs, O i = some p /\ qb0z c p /\ σ[i]? = some (some (.ref p)) /\ H p = some (.lst vs) /\ qa0e K H (live c O) xs vs
 bor : ∀ (i : Nat) (xs : List PyData), ρ[i]? = some (some (.bor xs)) -> ∃ p vs, O i = some p /\ σ[i]? = some (some (.ref p)) /\ H p = some (.lst vs) /\ qa0e K H (live c O) xs vs
 tap : ∀ (i k : Nat), ρ[i]? = some (some (.tape k)) -> ∃ p, O i = some p /\ σ[i]? = some (some (.ref p)) /\ H p = some (.lst [.ref c.sa, .int k])
 scr : ∀ i : Nat, ρ[i]? = some (some .scr) -> σ[i]? = some (some (.ref c.sa))
 inj : ∀ i j p, O i = some p -> O j = some p -> i = j
 has' : ∀ i p, O i = some p -> c.A p /\ ∃ vs, H p = some (.lst vs)
 am : ∀ p, c.A p -> c.M p ∨ c.H0 p = none
 frs : ∀ p, c.H0 p = none -> c.S p
 same : ∀ b o, ¬ c.M b -> c.H0 b = some o -> H b = some o
 kept : ∀ b, c.H0 b ≠ none -> H b ≠ none
 ml : ∀ p, c.M p -> ∃ vs, H p = some (.lst vs)
 pin : ∀ p, c.P p ∨ c.B p -> H p ≠ none
 lnt : ∀ (i : Nat) (p : Addr), c.lent i = some p -> ∀ l : L, ρ[i]? = some (some l) -> isIO l = true -> O i = some p
 sc : Scr K H c.sa (c.ns.map V.int)
 len : σ.length = ρ.length
theorem Rel.has {K : PySem.W.Frag} {c : Rc} {O : Own} {ρ : Rho} {σ : St} {H : Hp} (R : Rel K c O ρ σ H) (i : Nat) (p : Addr) (h : O i = some p) : (c.M p ∨ c.H0 p = none) /\ ∃ vs, H p = some (.lst vs) := ⟨R.am p (R.has' i p h).1, (R.has' i p h).2⟩
noncomputable def Pers (K : PySem.W.Frag) (S : Addr -> Prop) (H : Hp) (S' : Addr -> Prop) (H' : Hp) : Prop := ∀ d v, AtD K H S d v -> AtD K H' S' d v
section
variable {K : PySem.W.Frag} {S S' S2 : Addr -> Prop} {H H' H2 : Hp}
theorem Pers.refl : Pers K S H S H := fun _ _ h => h
theorem Pers.trans (a : Pers K S H S' H') (b : Pers K S' H' S2 H2) : Pers K S H S2 H2 := fun d v h => b d v (a d v h)
theorem Pers.all (a : Pers K S H S' H') : ∀ {ds : List PyData} {vs : List V}, qa0e K H S ds vs -> qa0e K H' S' ds vs
 | [], _, h => by rw [h.unnil]; exact .nil
 | d :: ds, vs, h => by
  obtain ⟨v, r, rfl, h1, h2⟩ := h.uncons
  exact .cons (a d v h1) (Pers.all a h2)
theorem Pers.of (e : Keep S H H') (m : ∀ a, S a -> S' a) : Pers K S H S' H' := fun d v h => AtD.more m d v (AtD.mono e d v h)
theorem Pers.same (e : Same H H') : Pers K S H S H' := .of e.keep fun _ h => h
mutual
theorem AtD.less {p : Addr} (hp : H p = none) (hs : ∀ a, S a -> a ≠ p -> S' a) : ∀ (d : PyData) (v : V), AtD K H S d v -> AtD K H S' d v
 | .none, _, h => by unfold AtD at h ⊢; exact h
 | .bool _, _, h => by unfold AtD at h ⊢; exact h
 | .int _, _, h => by unfold AtD at h ⊢; exact h
 | .str _, _, h => by unfold AtD at h ⊢; exact h
 | .list ds, v, h => by
  obtain ⟨a, xs, e1, s, q, r⟩ := qa6k h
  subst e1
  exact qa5l (hs a s (qa3y q hp)) q (qa0e.less hp hs ds xs r)
 | .tuple ds, v, h => by
  obtain ⟨a, xs, e1, q, r⟩ := qa5z h
  subst e1
  exact qa6d q (qa0e.less hp hs ds xs r)
 | .dict kvs, v, h => by
  obtain ⟨a, ν, e1, s, q, e2⟩ := qb1h h
  subst e1 e2
  exact qa9x (hs a s (qa3y q hp)) q
theorem qa0e.less {p : Addr} (hp : H p = none) (hs : ∀ a, S a -> a ≠ p -> S' a) : ∀ (ds : List PyData) (vs : List V), qa0e K H S ds vs -> qa0e K H S' ds vs
 | [], _, h => by rw [h.unnil]; exact .nil
 | d :: ds, vs, h => by
  obtain ⟨v, r, rfl, h1, h2⟩ := h.uncons
  exact .cons (AtD.less hp hs d v h1) (qa0e.less hp hs ds r h2)
end
theorem Pers.new {p : Addr} (hp : H p = none) (hs : ∀ a, S a -> a ≠ p -> S' a) (o : HO) : Pers K S H S' (upd H p o) := fun d v h =>
 AtD.mono (qa2y hp o).keep d v (AtD.less hp hs d v h)
end
section
variable {K : PySem.W.Frag} {c : Rc} {O : Own} {ρ : Rho} {σ : St} {H H' : Hp}
theorem Scr.keep {a : Addr} {xs : List V} {S : Addr -> Prop} (h : Scr K H a xs) (e : Keep S H H') : Scr K H' a xs := by
 refine ⟨h.1, ?_⟩
 rcases h.2 with ⟨o, h⟩ | h
 ·exact .inl ⟨o, e.2.1 _ _ _ h⟩
 ·exact .inr h
theorem Rel.to {c' : Rc} {O' : Own} (R : Rel K c O ρ σ H) (hO : ∀ i, O' i = O i) (hB : ∀ i p, O i = some p -> qb0z c p -> qb0z c' p) (hsa : c'.sa = c.sa) (hns : c'.ns = c.ns)
  (hp : Pers K (live c O) H (live c' O') H') (ho : ∀ i p vs, O i = some p -> H p = some (.lst vs) -> H' p = some (.lst vs))
  (hA : ∀ i p, O i = some p -> c.A p -> c'.A p) (am : ∀ p, c'.A p -> c'.M p ∨ c'.H0 p = none) (frs : ∀ p, c'.H0 p = none -> c'.S p) (same : ∀ b o, ¬ c'.M b -> c'.H0 b = some o -> H' b = some o) (kept : ∀ b, c'.H0 b ≠ none -> H' b ≠ none) (ml : ∀ p, c'.M p -> ∃ vs, H' p = some (.lst vs))
  (pin : ∀ p, c'.P p ∨ c'.B p -> H' p ≠ none) (hl : ∀ i, c'.lent i = c.lent i) (sc : Scr K H' c.sa (c.ns.map V.int)) : Rel K c' O' ρ σ H' where
 dat i x e := let ⟨v, h1, h2⟩ := R.dat i x e; ⟨v, h1, hp _ _ h2⟩
 own i xs e := let ⟨p, vs, h1, h2, h3, h4, h5⟩ := R.own i xs e; ⟨p, vs, (hO i).trans h1, hB i p h1 h2, h3, ho i p vs h1 h4, hp.all h5⟩
 bor i xs e := let ⟨p, vs, h1, h3, h4, h5⟩ := R.bor i xs e; ⟨p, vs, (hO i).trans h1, h3, ho i p vs h1 h4, hp.all h5⟩
 tap i k e := let ⟨p, h1, h2, h3⟩ := R.tap i k e; ⟨p, (hO i).trans h1, h2, by rw [hsa]; exact ho i p _ h1 h3⟩
 scr i e := by rw [hsa]; exact R.scr i e
 inj i j p e1 e2 := R.inj i j p ((hO i).symm.trans e1) ((hO j).symm.trans e2)
 has' i p e := by
  have e' := (hO i).symm.trans e
  obtain ⟨h0, vs, h⟩ := R.has' i p e'
  exact ⟨hA i p e' h0, vs, ho i p vs e' h⟩
 am := am
 frs := frs
 same := same
 kept := kept
 ml := ml
 pin := pin
 lnt i p e l h1 h2 := (hO i).trans (R.lnt i p ((hl i).symm.trans e) l h1 h2)
 sc := by rw [hsa, hns]; exact sc
 len := R.len
theorem qe5v {i : Nat} {p : Addr} (h : O i = some p) : ¬ live c O p := fun z => z.2.2 i h
theorem Rel.grow (R : Rel K c O ρ σ H) (e : Same H H') : Rel K c O ρ σ H' :=
 R.to (fun _ => rfl) (fun _ _ _ z => z) rfl rfl (.same e) (fun i p vs _ q => e _ _ q) (fun _ _ _ z => z) R.am R.frs (fun b o n q => e _ _ (R.same b o n q))
  (fun b n z => R.kept b n (e.free z)) (fun p h => let ⟨vs, q⟩ := R.ml p h; ⟨vs, e _ _ q⟩) (fun p h z => R.pin p h (e.free z)) (fun _ => rfl) (R.sc.keep (S := Any) e.keep)
theorem Rel.free0 (R : Rel K c O ρ σ H) {p : Addr} (h : H p = none) : c.H0 p = none := by
 cases q : c.H0 p with
 | none => rfl
 | some o => exact absurd h (R.kept p (by rw [q]; exact fun z => nomatch z))
theorem Rel.liveNew (R : Rel K c O ρ σ H) {p : Addr} (h : H p = none) : live c O p :=
 ⟨R.frs p (R.free0 h), fun z => R.pin p (.inl z) h, fun i e => by obtain ⟨_, vs, q⟩ := R.has i p e; rw [h] at q; cases q⟩
theorem Rel.frsLive (R : Rel K c O ρ σ H) : Frs (live c O) H := fun _ h => R.liveNew h
theorem Rel.write {i : Nat} {p : Addr} {xs : List PyData} {vs vs' : List V} {l : L} (R : Rel K c O ρ σ H) (hO : O i = some p) (hH : H p = some (.lst vs))
  (hl : ρ[i]? = some (some (.own xs)) ∨ ρ[i]? = some (some (.bor xs)) ∨ ∃ k : Nat, ρ[i]? = some (some (.tape k)))
  (hl' : (∃ ys, ρ[i]? = some (some (.own xs)) /\ l = .own ys /\ qa0e K H (live c O) ys vs') ∨ (∃ ys, ρ[i]? = some (some (.bor xs)) /\ l = .bor ys /\ qa0e K H (live c O) ys vs') ∨ (∃ k k' : Nat, ρ[i]? = some (some (.tape k)) /\ l = .tape k' /\ vs' = [.ref c.sa, .int k'])) :
  Rel K c O (ρ.set i (some l)) σ (upd H p (.lst vs')) /\ Pers K (live c O) H (live c O) (upd H p (.lst vs')) := by
 have hi : i < ρ.length := by
  rcases hl with h | h | ⟨k, h⟩ <;> exact (List.getElem?_eq_some_iff.mp h).1
 have kp : Keep (live c O) H (upd H p (.lst vs')) := (qe3o hH).less fun b hb e => by
  subst e; exact qe5v hO hb
 have P : Pers K (live c O) H (live c O) (upd H p (.lst vs')) := .of kp fun _ h => h
 have at_i : (ρ.set i (some l))[i]? = some (some l) := by rw [List.getElem?_set_self hi]
 have at_j : ∀ j, j ≠ i -> (ρ.set i (some l))[j]? = ρ[j]? := fun j hj => List.getElem?_set_ne (Ne.symm hj)
 have other : ∀ j q, j ≠ i -> O j = some q -> q ≠ p := fun j q hj e z => hj (R.inj j i p (by rw [← z]; exact e) hO)
 have hσ : σ[i]? = some (some (.ref p)) := by
  rcases hl with h | h | ⟨k, h⟩
  ·obtain ⟨p', _, h1, _, h3, _⟩ := R.own i xs h; rw [hO] at h1; cases h1; exact h3
  ·obtain ⟨p', _, h1, h3, _⟩ := R.bor i xs h; rw [hO] at h1; cases h1; exact h3
  ·obtain ⟨p', h1, h3, _⟩ := R.tap i k h; rw [hO] at h1; cases h1; exact h3
 refine ⟨⟨fun j x e => ?_, fun j ys e => ?_, fun j ys e => ?_, fun j k e => ?_, fun j e => ?_, R.inj, fun j q e => ?_, R.am, R.frs, fun b o n q => ?_, fun b n z => ?_, fun q h => ?_, fun q h z => ?_, fun j q e l2 h1 h2 => ?_, ?_, ?_⟩, P⟩
 ·by_cases hj : j = i
  ·subst hj; rw [at_i] at e
   rcases hl' with ⟨ys, _, rfl, _⟩ | ⟨ys, _, rfl, _⟩ | ⟨k, k', _, rfl, _⟩ <;> cases e
  ·rw [at_j j hj] at e
   obtain ⟨v, h1, h2⟩ := R.dat j x e
   exact ⟨v, h1, P _ _ h2⟩
 ·by_cases hj : j = i
  ·subst hj; rw [at_i] at e
   rcases hl' with ⟨zs, h0, rfl, h⟩ | ⟨zs, _, rfl, _⟩ | ⟨k, k', _, rfl, _⟩ <;> cases e
   obtain ⟨p', _, h1, h2, h3, _⟩ := R.own j xs h0
   rw [hO] at h1; cases h1
   exact ⟨p, vs', hO, h2, h3, qa0z, P.all h⟩
  ·rw [at_j j hj] at e
   obtain ⟨q, ws, h1, h2, h3, h4, h5⟩ := R.own j ys e
   exact ⟨q, ws, h1, h2, h3, by rw [qa1j (other j q hj h1)]; exact h4, P.all h5⟩
 ·by_cases hj : j = i
  ·subst hj; rw [at_i] at e
   rcases hl' with ⟨zs, _, rfl, _⟩ | ⟨zs, h0, rfl, h⟩ | ⟨k, k', _, rfl, _⟩ <;> cases e
   exact ⟨p, vs', hO, hσ, qa0z, P.all h⟩
  ·rw [at_j j hj] at e
   obtain ⟨q, ws, h1, h3, h4, h5⟩ := R.bor j ys e
   exact ⟨q, ws, h1, h3, by rw [qa1j (other j q hj h1)]; exact h4, P.all h5⟩
 ·by_cases hj : j = i
  ·subst hj; rw [at_i] at e
   rcases hl' with ⟨zs, _, rfl, _⟩ | ⟨zs, _, rfl, _⟩ | ⟨k1, k', _, rfl, h⟩ <;> cases e
   exact ⟨p, hO, hσ, by rw [qa0z, h]⟩
  ·rw [at_j j hj] at e
   obtain ⟨q, h1, h3, h4⟩ := R.tap j k e
   exact ⟨q, h1, h3, by rw [qa1j (other j q hj h1)]; exact h4⟩
 ·by_cases hj : j = i
  ·subst hj; rw [at_i] at e
   rcases hl' with ⟨ys, _, rfl, _⟩ | ⟨ys, _, rfl, _⟩ | ⟨k, k', _, rfl, _⟩ <;> cases e
  ·rw [at_j j hj] at e
   exact R.scr j e
 ·obtain ⟨h1, ws, h2⟩ := R.has' j q e
  refine ⟨h1, ?_⟩
  by_cases hq : q = p
  ·subst hq; exact ⟨vs', qa0z⟩
  ·exact ⟨ws, by rw [qa1j hq]; exact h2⟩
 ·have hb : b ≠ p := by
   rintro rfl
   rcases (R.has i b hO).1 with z | z
   ·exact n z
   ·rw [z] at q; cases q
  rw [qa1j hb]; exact R.same b o n q
 ·by_cases hb : b = p
  ·subst hb; rw [qa0z] at z; cases z
  ·rw [qa1j hb] at z; exact R.kept b n z
 ·obtain ⟨ws, h2⟩ := R.ml q h
  by_cases hq : q = p
  ·subst hq; exact ⟨vs', qa0z⟩
  ·exact ⟨ws, by rw [qa1j hq]; exact h2⟩
 ·by_cases hb : q = p
  ·subst hb; rw [qa0z] at z; cases z
  ·rw [qa1j hb] at z; exact R.pin q h z
 ·by_cases hj : j = i
  ·subst hj; rw [at_i] at h1; cases h1
   rcases hl' with ⟨zs, _, rfl, _⟩ | ⟨zs, h0, rfl, _⟩ | ⟨k1, k', h0, rfl, _⟩
   ·cases h2
   ·exact R.lnt j q e _ h0 rfl
   ·exact R.lnt j q e _ h0 rfl
  ·rw [at_j j hj] at h1; exact R.lnt j q e _ h1 h2
 ·exact R.sc.keep kp
 ·rw [List.length_set]; exact R.len
noncomputable def qa3j (O : Own) (i : Nat) : Own := fun j => if j = i then none else O j
theorem qc2u {i : Nat} {a : Addr} (h : live c O a) : live c (qa3j O i) a := ⟨h.1, h.2.1, fun j e => by
 unfold qa3j at e
 by_cases hj : j = i
 ·rw [if_pos hj] at e; cases e
 ·rw [if_neg hj] at e; exact h.2.2 j e⟩
theorem qa5u {i j : Nat} (h : j ≠ i) : qa3j O i j = O j := if_neg h
theorem qe0x {i : Nat} : qa3j O i i = none := if_pos rfl
theorem qa5v {i j : Nat} {p : Addr} (e : qa3j O i j = some p) : j ≠ i /\ O j = some p := by
 by_cases hj : j = i
 ·subst hj; rw [qe0x] at e; cases e
 ·rw [qa5u hj] at e; exact ⟨hj, e⟩
theorem Rel.freeze {i : Nat} {xs : List PyData} (R : Rel K c O ρ σ H) (hl : ρ[i]? = some (some (.own xs))) :
  Rel K c (qa3j O i) (ρ.set i (some (.d (.list xs)))) σ H /\ Pers K (live c O) H (live c (qa3j O i)) H := by
 obtain ⟨p, vs, hO, hB, hσ, hH, hA⟩ := R.own i xs hl
 have hi : i < ρ.length := (List.getElem?_eq_some_iff.mp hl).1
 have P : Pers K (live c O) H (live c (qa3j O i)) H := .of (Keep.refl _ _) fun _ h => qc2u h
 have at_i : (ρ.set i (some (.d (.list xs))))[i]? = some (some (.d (.list xs))) := by rw [List.getElem?_set_self hi]
 have at_j : ∀ j, j ≠ i -> (ρ.set i (some (.d (.list xs))))[j]? = ρ[j]? := fun j hj => List.getElem?_set_ne (Ne.symm hj)
 have ne : ∀ {j : Nat} {l : L}, (ρ.set i (some (.d (.list xs))))[j]? = some (some l) -> (∀ x, l ≠ .d x) -> j ≠ i /\ ρ[j]? = some (some l) := fun {j l} e n => by
  by_cases hj : j = i
  ·subst hj; rw [at_i] at e; cases e; exact absurd rfl (n _)
  ·rw [at_j j hj] at e; exact ⟨hj, e⟩
 refine ⟨⟨fun j x e => ?_, fun j ys e => ?_, fun j ys e => ?_, fun j k e => ?_, fun j e => ?_, fun a b q e1 e2 => R.inj a b q (qa5v e1).2 (qa5v e2).2, fun j q e => R.has' j q (qa5v e).2, R.am, R.frs, R.same, R.kept, R.ml, R.pin, fun j q e l h1 h2 => ?_, R.sc, ?_⟩, P⟩
 ·by_cases hj : j = i
  ·subst hj; rw [at_i] at e; cases e
   refine ⟨.ref p, hσ, qa5l ⟨hB.2.1, hB.2.2, fun k e => ?_⟩ hH (P.all hA)⟩
   obtain ⟨h1, h2⟩ := qa5v e
   exact h1 (R.inj k j p h2 hO)
  ·rw [at_j j hj] at e
   obtain ⟨v, h1, h2⟩ := R.dat j x e
   exact ⟨v, h1, P _ _ h2⟩
 ·obtain ⟨hj, e⟩ := ne e fun _ z => nomatch z
  obtain ⟨q, ws, h1, h2, h3, h4, h5⟩ := R.own j ys e
  exact ⟨q, ws, (qa5u hj).trans h1, h2, h3, h4, P.all h5⟩
 ·obtain ⟨hj, e⟩ := ne e fun _ z => nomatch z
  obtain ⟨q, ws, h1, h3, h4, h5⟩ := R.bor j ys e
  exact ⟨q, ws, (qa5u hj).trans h1, h3, h4, P.all h5⟩
 ·obtain ⟨hj, e⟩ := ne e fun _ z => nomatch z
  obtain ⟨q, h1, h3, h4⟩ := R.tap j k e
  exact ⟨q, (qa5u hj).trans h1, h3, h4⟩
 ·obtain ⟨hj, e⟩ := ne e fun _ z => nomatch z
  exact R.scr j e
 ·obtain ⟨hj, e'⟩ := ne h1 fun x z => by subst z; cases h2
  rw [qa5u hj]; exact R.lnt j q e _ e' h2
 ·rw [List.length_set]; exact R.len
theorem Rel.setD {i : Nat} {x : PyData} {v : V} (R : Rel K c O ρ σ H) (hi : i < ρ.length) (h : AtD K H (live c O) x v) :
  Rel K c (qa3j O i) (ρ.set i (some (.d x))) (σ.set i (some v)) H /\ Pers K (live c O) H (live c (qa3j O i)) H := by
 have P : Pers K (live c O) H (live c (qa3j O i)) H := .of (Keep.refl _ _) fun _ h => qc2u h
 have at_i : ∀ l : Option L, (ρ.set i l)[i]? = some l := fun l => by rw [List.getElem?_set_self hi]
 have at_j : ∀ (l : Option L) j, j ≠ i -> (ρ.set i l)[j]? = ρ[j]? := fun l j hj => List.getElem?_set_ne (Ne.symm hj)
 have st_j : ∀ j, j ≠ i -> (σ.set i (some v))[j]? = σ[j]? := fun j hj => List.getElem?_set_ne (Ne.symm hj)
 have ne : ∀ {j : Nat} {l : L}, (ρ.set i (some (.d x)))[j]? = some (some l) -> (∀ x, l ≠ .d x) -> j ≠ i /\ ρ[j]? = some (some l) := fun {j l} e n => by
  by_cases hj : j = i
  ·subst hj; rw [at_i] at e; cases e; exact absurd rfl (n _)
  ·rw [at_j _ j hj] at e; exact ⟨hj, e⟩
 refine ⟨⟨fun j y e => ?_, fun j ys e => ?_, fun j ys e => ?_, fun j k e => ?_, fun j e => ?_, fun a b q e1 e2 => R.inj a b q (qa5v e1).2 (qa5v e2).2, fun j q e => R.has' j q (qa5v e).2, R.am, R.frs, R.same, R.kept, R.ml, R.pin, fun j q e l h1 h2 => ?_, R.sc, ?_⟩, P⟩
 ·by_cases hj : j = i
  ·subst hj; rw [at_i] at e; cases e
   exact ⟨v, by rw [List.getElem?_set_self (by rw [R.len]; exact hi)], P _ _ h⟩
  ·rw [at_j _ j hj] at e
   obtain ⟨v, h1, h2⟩ := R.dat j y e
   exact ⟨v, by rw [st_j j hj]; exact h1, P _ _ h2⟩
 ·obtain ⟨hj, e⟩ := ne e fun _ z => nomatch z
  obtain ⟨q, ws, h1, h2, h3, h4, h5⟩ := R.own j ys e
  exact ⟨q, ws, (qa5u hj).trans h1, h2, by rw [st_j j hj]; exact h3, h4, P.all h5⟩
 ·obtain ⟨hj, e⟩ := ne e fun _ z => nomatch z
  obtain ⟨q, ws, h1, h3, h4, h5⟩ := R.bor j ys e
  exact ⟨q, ws, (qa5u hj).trans h1, by rw [st_j j hj]; exact h3, h4, P.all h5⟩
 ·obtain ⟨hj, e⟩ := ne e fun _ z => nomatch z
  obtain ⟨q, h1, h3, h4⟩ := R.tap j k e
  exact ⟨q, (qa5u hj).trans h1, by rw [st_j j hj]; exact h3, h4⟩
 ·obtain ⟨hj, e⟩ := ne e fun _ z => nomatch z
  rw [st_j j hj]; exact R.scr j e
 ·obtain ⟨hj, e'⟩ := ne h1 fun x z => by subst z; cases h2
  rw [qa5u hj]; exact R.lnt j q e _ e' h2
 ·rw [List.length_set, List.length_set]; exact R.len
noncomputable def Rc.add (c : Rc) (p : Addr) : Rc := { c with P := fun a => c.P a ∨ a = p }
theorem qb5d {p a : Addr} (h : live c O a) (n : a ≠ p) : live (c.add p) O a := ⟨h.1, fun z => z.elim h.2.1 n, h.2.2⟩
theorem qa7v {p a : Addr} (h : live (c.add p) O a) : live c O a /\ a ≠ p := ⟨⟨h.1, fun z => h.2.1 (.inl z), h.2.2⟩, fun z => h.2.1 (.inr z)⟩
theorem Rel.lay {p : Addr} {o : HO} (R : Rel K c O ρ σ H) (hp : H p = none) : Rel K (c.add p) O ρ σ (upd H p o) /\ Pers K (live c O) H (live (c.add p) O) (upd H p o) := by
 have P : Pers K (live c O) H (live (c.add p) O) (upd H p o) := .new hp (fun a h n => qb5d h n) o
 have S := qa2y hp o
 refine ⟨R.to (fun _ => rfl) (fun i q hq z => ⟨z.1, z.2.1, fun w => w.elim z.2.2 fun e => ?_⟩) rfl rfl P (fun i q vs _ h => S _ _ h) (fun _ _ _ z => z) R.am R.frs (fun b ob n q => S _ _ (R.same b ob n q))
  (fun b n z => R.kept b n (S.free z)) (fun p h => let ⟨vs, q⟩ := R.ml p h; ⟨vs, S _ _ q⟩) (fun q h z => ?_) (fun _ => rfl) (R.sc.keep (S := Any) S.keep), P⟩
 ·obtain ⟨_, vs, h⟩ := R.has i q hq
  rw [e, hp] at h; cases h
 ·rcases h with (h | rfl) | h
  ·exact R.pin q (.inl h) (S.free z)
  ·rw [qa0z] at z; cases z
  ·exact R.pin q (.inr h) (S.free z)
theorem Rel.unadd {p : Addr} (R : Rel K (c.add p) O ρ σ H) : Rel K c O ρ σ H /\ Pers K (live (c.add p) O) H (live c O) H := by
 have P : Pers K (live (c.add p) O) H (live c O) H := .of (Keep.refl _ _) fun a h => (qa7v h).1
 exact ⟨R.to (fun _ => rfl) (fun i q _ z => ⟨z.1, z.2.1, fun w => z.2.2 (.inl w)⟩) rfl rfl P (fun _ _ _ _ h => h) (fun _ _ _ z => z) R.am R.frs R.same R.kept R.ml (fun q h => R.pin q (h.elim (fun z => .inl (.inl z)) .inr)) (fun _ => rfl) R.sc, P⟩
noncomputable def owned (O : Own) (i : Nat) (p : Addr) : Own := fun j => if j = i then some p else O j
theorem qa9c {i j : Nat} {p : Addr} (h : j ≠ i) : owned O i p j = O j := if_neg h
theorem qb5e {i : Nat} {p : Addr} : owned O i p i = some p := if_pos rfl
theorem Rel.setOwn {i : Nat} {p : Addr} {xs : List PyData} {vs : List V} (R : Rel K (c.add p) O ρ σ H) (hi : i < ρ.length) (h0 : c.H0 p = none) (hB : ¬ c.B p) (hP : ¬ c.P p) (hn : ∀ j, O j ≠ some p) (hAp : c.A p) (hH : H p = some (.lst vs)) (hA : qa0e K H (live (c.add p) O) xs vs) :
  Rel K c (owned O i p) (ρ.set i (some (.own xs))) (σ.set i (some (.ref p))) H /\ Pers K (live (c.add p) O) H (live c (owned O i p)) H := by
 have P : Pers K (live (c.add p) O) H (live c (owned O i p)) H := .of (Keep.refl _ _) fun a h => by
  obtain ⟨h1, h2⟩ := qa7v h
  refine ⟨h1.1, h1.2.1, fun j e => ?_⟩
  by_cases hj : j = i
  ·subst hj; rw [qb5e] at e; cases e; exact h2 rfl
  ·rw [qa9c hj] at e; exact h1.2.2 j e
 have at_i : (ρ.set i (some (.own xs)))[i]? = some (some (.own xs)) := by rw [List.getElem?_set_self hi]
 have at_j : ∀ j, j ≠ i -> (ρ.set i (some (.own xs)))[j]? = ρ[j]? := fun j hj => List.getElem?_set_ne (Ne.symm hj)
 have st_j : ∀ j, j ≠ i -> (σ.set i (some (.ref p)))[j]? = σ[j]? := fun j hj => List.getElem?_set_ne (Ne.symm hj)
 have ne : ∀ {j : Nat} {l : L}, (ρ.set i (some (.own xs)))[j]? = some (some l) -> (∀ x, l ≠ .own x) -> j ≠ i /\ ρ[j]? = some (some l) := fun {j l} e n => by
  by_cases hj : j = i
  ·subst hj; rw [at_i] at e; cases e; exact absurd rfl (n _)
  ·rw [at_j j hj] at e; exact ⟨hj, e⟩
 have ow : ∀ {j : Nat} {q : Addr}, owned O i p j = some q -> (j = i /\ q = p) ∨ (j ≠ i /\ O j = some q) := fun {j q} e => by
  by_cases hj : j = i
  ·subst hj; rw [qb5e] at e; cases e; exact .inl ⟨rfl, rfl⟩
  ·rw [qa9c hj] at e; exact .inr ⟨hj, e⟩
 refine ⟨⟨fun j y e => ?_, fun j ys e => ?_, fun j ys e => ?_, fun j k e => ?_, fun j e => ?_, fun a b q e1 e2 => ?_, fun j q e => ?_, R.am, R.frs, R.same, R.kept, R.ml, fun q h => R.pin q (h.elim (fun z => .inl (.inl z)) .inr), fun j q e l h1 h2 => ?_, R.sc, ?_⟩, P⟩
 ·obtain ⟨hj, e⟩ := ne e fun _ z => nomatch z
  obtain ⟨v, h1, h2⟩ := R.dat j y e
  exact ⟨v, by rw [st_j j hj]; exact h1, P _ _ h2⟩
 ·by_cases hj : j = i
  ·subst hj; rw [at_i] at e; cases e
   exact ⟨p, vs, qb5e, ⟨hB, R.frs p h0, hP⟩, by rw [List.getElem?_set_self (by rw [R.len]; exact hi)], hH, P.all hA⟩
  ·rw [at_j j hj] at e
   obtain ⟨q, ws, h1, h2, h3, h4, h5⟩ := R.own j ys e
   exact ⟨q, ws, (qa9c hj).trans h1, ⟨h2.1, h2.2.1, fun z => h2.2.2 (.inl z)⟩, by rw [st_j j hj]; exact h3, h4, P.all h5⟩
 ·obtain ⟨hj, e⟩ := ne e fun _ z => nomatch z
  obtain ⟨q, ws, h1, h3, h4, h5⟩ := R.bor j ys e
  exact ⟨q, ws, (qa9c hj).trans h1, by rw [st_j j hj]; exact h3, h4, P.all h5⟩
 ·obtain ⟨hj, e⟩ := ne e fun _ z => nomatch z
  obtain ⟨q, h1, h3, h4⟩ := R.tap j k e
  exact ⟨q, (qa9c hj).trans h1, by rw [st_j j hj]; exact h3, h4⟩
 ·obtain ⟨hj, e⟩ := ne e fun _ z => nomatch z
  rw [st_j j hj]; exact R.scr j e
 ·rcases ow e1 with ⟨h1, h2⟩ | ⟨h1, h2⟩ <;> rcases ow e2 with ⟨h3, h4⟩ | ⟨h3, h4⟩
  ·rw [h1, h3]
  ·rw [h2] at h4; exact absurd h4 (hn b)
  ·rw [h4] at h2; exact absurd h2 (hn a)
  ·exact R.inj a b q h2 h4
 ·rcases ow e with ⟨h1, h2⟩ | ⟨h1, h2⟩
  ·subst h2; exact ⟨hAp, vs, hH⟩
  ·exact R.has' j q h2
 ·obtain ⟨hj, e'⟩ := ne h1 fun x z => by subst z; cases h2
  rw [qa9c hj]; exact R.lnt j q e _ e' h2
 ·rw [List.length_set, List.length_set]; exact R.len
end
end L2
end
section
namespace L2
open PySem PySem.Spec PyProof.Rows
inductive DV where
 | d (x : PyData)
 | sl (i : Nat)
noncomputable def AtV (K : PySem.W.Frag) (S : Addr -> Prop) (σ : St) (H : Hp) : DV -> V -> Prop
 | .d x, v => AtD K H S x v
 | .sl i, v => σ[i]? = some (some v)
noncomputable def qb1u : L -> Option PyData
 | .d x => some x
 | .own xs => some (.list xs)
 | .bor xs => some (.list xs)
 | _ => none
noncomputable def qa1a (ρ : Rho) : DV -> Option PyData
 | .d x => some x
 | .sl i => (ρ[i]?.join).bind qb1u
noncomputable def AtT (K : PySem.W.Frag) (H : Hp) (S : Addr -> Prop) (x : PyData) (v : V) : Prop := AtD K H S x v ∨ ∃ ds a vs, x = .list ds /\ v = .ref a /\ H a = some (.lst vs) /\ qa0e K H S ds vs
noncomputable def need {α : Type} (o : Option α) (k : α -> Prop) : Prop := match o with
 | some a => k a
 | none => False
theorem qa1c {α : Type} {a : α} {k : α -> Prop} : need (some a) k = k a := rfl
theorem qc6l {α : Type} {k : α -> Prop} : need (none : Option α) k = False := rfl
theorem ne {α : Type} {o : Option α} {k : α -> Prop} (h : need o k) : ∃ a, o = some a /\ k a := by
 cases o with
 | none => exact False.elim h
 | some a => exact ⟨a, rfl, h⟩
theorem ni {α : Type} {o : Option α} {a : α} {k : α -> Prop} (e : o = some a) (h : k a) : need o k := by subst e; exact h
theorem itT {a b : Prop} : (if true = true then a else b) = a := rfl
theorem itF {a b : Prop} : (if false = true then a else b) = b := rfl
noncomputable abbrev TDE := Rho -> (DV -> Rho -> Prop) -> Prop
noncomputable abbrev TDF := Rho -> (List PyData -> Rho -> Prop) -> Prop
noncomputable abbrev TDT := Rho -> (Bool -> Rho -> Prop) -> Prop
noncomputable abbrev TDA := Rho -> (List DV -> Rho -> Prop) -> Prop
noncomputable def qb4l (c : Rc) (O : Own) (p : Addr) : Prop := c.H0 p = none /\ ¬ c.B p /\ ¬ c.P p /\ ∀ j, O j ≠ some p
noncomputable def AdE (K : PySem.W.Frag) (t : TE) (dt : TDE) : Prop := ∀ (c : Rc) (O : Own) (ρ : Rho) (σ : St) (H : Hp) (Qd : DV -> Rho -> Prop) (Q : VK), Rel K c O ρ σ H -> dt ρ Qd ->
 (∀ x ρ' O' v H', Qd x ρ' -> Rel K c O' ρ' σ H' -> Pers K (live c O) H (live c O') H' -> AtV K (live c O') σ H' x v -> Q v H') -> t σ H Q
noncomputable def AdF (K : PySem.W.Frag) (t : TE) (dt : TDF) : Prop := ∀ (c : Rc) (O : Own) (ρ : Rho) (σ : St) (H : Hp) (Qd : List PyData -> Rho -> Prop) (Q : VK), Rel K c O ρ σ H -> dt ρ Qd ->
 (∀ xs ρ' O' p vs H', Qd xs ρ' -> Rel K (c.add p) O' ρ' σ H' -> Pers K (live c O) H (live (c.add p) O') H' -> qb4l c O' p -> H' p = some (.lst vs) -> qa0e K H' (live (c.add p) O') xs vs -> Q (.ref p) H') -> t σ H Q
noncomputable def AdT (K : PySem.W.Frag) (t : TT) (dt : TDT) : Prop := ∀ (c : Rc) (O : Own) (ρ : Rho) (σ : St) (H : Hp) (Qd : Bool -> Rho -> Prop) (Q : Bool -> Hp -> Prop), Rel K c O ρ σ H -> dt ρ Qd ->
 (∀ b ρ' O' H', Qd b ρ' -> Rel K c O' ρ' σ H' -> Pers K (live c O) H (live c O') H' -> Q b H') -> t σ H Q
noncomputable def AtVs (K : PySem.W.Frag) (S : Addr -> Prop) (σ : St) (H : Hp) : List DV -> List V -> Prop := Paired (AtV K S σ H)
noncomputable def AdA (K : PySem.W.Frag) (t : TA) (dt : TDA) : Prop := ∀ (c : Rc) (O : Own) (ρ : Rho) (σ : St) (H : Hp) (Qd : List DV -> Rho -> Prop) (Q : List V -> Hp -> Prop), Rel K c O ρ σ H -> dt ρ Qd ->
 (∀ xs ρ' O' vs H', Qd xs ρ' -> Rel K c O' ρ' σ H' -> Pers K (live c O) H (live c O') H' -> AtVs K (live c O') σ H' xs vs -> Q vs H') -> t σ H Q
noncomputable def DE (X : Cx) (e : Expr) (dt : TDE) : Prop := ∃ t, PE X e t /\ AdE X.K t dt
noncomputable def DF (X : Cx) (e : Expr) (dt : TDF) : Prop := ∃ t, PE X e t /\ AdF X.K t dt
noncomputable def DT (X : Cx) (e : Expr) (dt : TDT) : Prop := ∃ t, PT X e t /\ AdT X.K t dt
noncomputable def DW (X : Cx) (e : Expr) (dt : TDT) : Prop := ∃ t, PW X e t /\ AdT X.K t dt
noncomputable def DA (X : Cx) (es : List Expr) (dt : TDA) : Prop := ∃ t, PA X es t /\ AdA X.K t dt
section
variable {K : PySem.W.Frag} {c : Rc} {O : Own} {ρ : Rho} {σ : St} {H H' : Hp} {S S' : Addr -> Prop}
theorem AtV.pers {x : DV} {v : V} (h : AtV K S σ H x v) (P : Pers K S H S' H') : AtV K S' σ H' x v := by
 cases x with
 | d x => exact P _ _ h
 | sl i => exact h
theorem AtVs.pers {xs : List DV} {vs : List V} (h : AtVs K S σ H xs vs) (P : Pers K S H S' H') : AtVs K S' σ H' xs vs := Paired.imp' (fun _ _ q => q.pers P) h
theorem Rel.top (R : Rel K c O ρ σ H) {x : DV} {v : V} {d : PyData} (h : AtV K (live c O) σ H x v) (e : qa1a ρ x = some d) : AtT K H (live c O) d v := by
 cases x with
 | d x => cases e; exact .inl h
 | sl i =>
  have h' : σ[i]? = some (some v) := h
  have e' : (ρ[i]?.join).bind qb1u = some d := e
  cases q : ρ[i]? with
  | none => rw [q] at e'; cases e'
  | some ol =>
   cases ol with
   | none => rw [q] at e'; cases e'
   | some l =>
    rw [q] at e'
    cases l with
    | d x =>
     cases e'
     obtain ⟨w, h1, h2⟩ := R.dat i _ q
     rw [h'] at h1; cases h1
     exact .inl h2
    | own xs =>
     cases e'
     obtain ⟨p, vs, _, _, h1, h2, h3⟩ := R.own i _ q
     rw [h'] at h1; cases h1
     exact .inr ⟨xs, p, vs, rfl, rfl, h2, h3⟩
    | bor xs =>
     cases e'
     obtain ⟨p, vs, _, h1, h2, h3⟩ := R.bor i _ q
     rw [h'] at h1; cases h1
     exact .inr ⟨xs, p, vs, rfl, rfl, h2, h3⟩
    | tape k => cases e'
    | scr => cases e'
theorem AtT.list {ds : List PyData} {v : V} (h : AtT K H S (.list ds) v) : ∃ a vs, v = .ref a /\ H a = some (.lst vs) /\ qa0e K H S ds vs := by
 rcases h with h | ⟨ds', a, vs, e, e2, h1, h2⟩
 ·obtain ⟨a, vs, e, _, h1, h2⟩ := qa6k h
  exact ⟨a, vs, e, h1, h2⟩
 ·cases e; exact ⟨a, vs, e2, h1, h2⟩
theorem AtT.at {x : PyData} {v : V} (h : AtT K H S x v) (n : ∀ ds, x ≠ .list ds) : AtD K H S x v := by
 rcases h with h | ⟨ds', a, vs, e, _⟩
 ·exact h
 ·exact absurd e (n ds')
theorem AtT.any {x : PyData} {v : V} (h : AtT K H S x v) : AtD K H Any x v := by
 rcases h with h | ⟨ds', a, vs, e, e2, h1, h2⟩
 ·exact AtD.more (fun _ _ => trivial) _ _ h
 ·subst e e2; exact qa5l trivial h1 (qa0e.more (fun _ _ => trivial) _ _ h2)
noncomputable def dVar (i : Nat) : TDE := fun ρ Q => need (ρ[i]?.join) fun _ => Q (.sl i) ρ
theorem ad_var {i : Nat} : AdE K (tVar i) (dVar i) := by
 intro c O ρ σ H Qd Q R h k
 obtain ⟨_, h0, h⟩ := ne h
 replace h0 := congrArg Option.isSome h0
 have ex : ∃ v, σ[i]? = some (some v) := by
  cases q : ρ[i]? with
  | none => rw [q] at h0; cases h0
  | some ol =>
   cases ol with
   | none => rw [q] at h0; cases h0
   | some l =>
    cases l with
    | d x => obtain ⟨w, h1, _⟩ := R.dat i _ q; exact ⟨w, h1⟩
    | own xs => obtain ⟨p, vs, _, _, h1, _⟩ := R.own i _ q; exact ⟨_, h1⟩
    | bor xs => obtain ⟨p, vs, _, h1, _⟩ := R.bor i _ q; exact ⟨_, h1⟩
    | tape k => obtain ⟨p, _, h1, _⟩ := R.tap i _ q; exact ⟨_, h1⟩
    | scr => exact ⟨_, R.scr i q⟩
 obtain ⟨v, hv⟩ := ex
 exact ⟨v, hv, k _ _ _ _ _ h R .refl hv⟩
noncomputable def dC (x : PyData) : TDE := fun ρ Q => Q (.d x) ρ
theorem ad_c {x : PyData} {v : V} (hx : ∀ (S : Addr -> Prop) H, AtD K H S x v) : AdE K (tC v) (dC x) := fun c O ρ σ H Qd Q R h k => k _ _ _ _ _ h R .refl (hx _ _)
end
section
variable {X : Cx} {a b e : Expr} {es : List Expr} {da db : TDE} {pos : Pos}
theorem dv (i : Nat) {x : Str} (hN : X.N[i]? = some x := by rfl) (hv : Vis X.env.scope x := by first | exact Or.inl rfl | exact Or.inr (Or.inl rfl) | exact Or.inr (Or.inr rfl)) (hd : (x == ("__debug__" : Str)) = false := by decide)
  (hcd : (x == ("__classdict__" : Str)) = false := by decide) : DE X (.Name x pos) (dVar i) := ⟨_, qb1k hN hv hd hcd, ad_var⟩
theorem qa0c {i j} : DE X (.Constant (.int i) j pos) (dC (.int i)) := ⟨_, qa2q, ad_c fun _ _ => qa3t i⟩
theorem qa0d {i j} : DE X (.Constant (.str i) j pos) (dC (.str i)) := ⟨_, qc8e, ad_c fun _ _ => qa9a i⟩
theorem qa2v {i j} : DE X (.Constant (.bool i) j pos) (dC (.bool i)) := ⟨_, pe_bl, ad_c fun _ _ => qa2n i⟩
theorem qb8h {j} : DE X (.Constant .none j pos) (dC .none) := ⟨_, pe_non, ad_c fun _ _ => qb1t⟩
theorem qb4m {x : Str} {i : Int} (hg : Gl X x) (hm : ∃ t, X.mg x = some (.int i t)) (hd : (x == ("__debug__" : Str)) = false := by decide) : DE X (.Name x pos) (dC (.int i)) := by
 obtain ⟨t, hm⟩ := hm
 exact ⟨_, qc4e hg hm (v := .int i) ⟨t, rfl⟩ hd, ad_c fun _ _ => qa3t i⟩
noncomputable abbrev F2 := PyData -> PyData -> Option PyData
noncomputable def AdR (K : PySem.W.Frag) (r : R2) (f : F2) : Prop := ∀ (S : Addr -> Prop) (H : Hp) (x y : V) (dx dy z : PyData) (Q : VK), Frs S H -> AtT K H S dx x -> AtT K H S dy y -> f dx dy = some z ->
 (∀ v H', Same H H' -> AtD K H' S z v -> Q v H') -> r x y H Q
noncomputable def dOp (f : F2) (da db : TDE) : TDE := fun ρ Q => da ρ fun x ρ1 => db ρ1 fun y ρ2 => need (qa1a ρ2 x) fun dx => need (qa1a ρ2 y) fun dy => need (f dx dy) fun z => Q (.d z) ρ2
theorem ad_op {K : PySem.W.Frag} {r : R2} {f : F2} {ta tb : TE} (hr : AdR K r f) (ha : AdE K ta da) (hb : AdE K tb db) : AdE K (tOp r ta tb) (dOp f da db) := by
 intro c O ρ σ H Qd Q R h k
 refine ha c O ρ σ H _ _ R h fun x ρ1 O1 v H1 h1 R1 P1 a1 => ?_
 refine hb c O1 ρ1 σ H1 _ _ R1 h1 fun y ρ2 O2 u H2 h2 R2 P2 a2 => ?_
 obtain ⟨dx, e1, h2⟩ := ne h2
 obtain ⟨dy, e2, h2⟩ := ne h2
 obtain ⟨z, e3, h3⟩ := ne h2
 refine hr (live c O2) H2 v u dx dy z Q R2.frsLive (R2.top (a1.pers P2) e1) (R2.top a2 e2) e3 fun w H3 s3 a3 => ?_
 exact k _ _ _ _ _ h3 (R2.grow s3) ((P1.trans P2).trans (.same s3)) a3
theorem qa0y {op : Operator} {r : R2} {f : F2} (ho : OpR X (binaryOp op) r) (hr : AdR X.K r f) (ha : DE X a da) (hb : DE X b db) : DE X (.BinOp a op b pos) (dOp f da db) := by
 obtain ⟨ta, pa, aa⟩ := ha
 obtain ⟨tb, pb, ab⟩ := hb
 exact ⟨_, qa4a ho pa pb, ad_op hr aa ab⟩
theorem qa2l {op : CmpOp} {r : R2} {f : F2} (ho : OpR X (compareOp op) r) (hr : AdR X.K r f) (ha : DE X a da) (hb : DE X b db) (hm : behindInMarks op b = false) : DE X (.Compare a [op] [b] pos) (dOp f da db) := by
 obtain ⟨ta, pa, aa⟩ := ha
 obtain ⟨tb, pb, ab⟩ := hb
 exact ⟨_, qd8c ho pa pb hm, ad_op hr aa ab⟩
theorem qa0r {r : R2} {f : F2} (ho : IxR X r) (hr : AdR X.K r f) (ha : DE X a da) (hb : DE X b db) (hs : qc4g b) : DE X (.Subscript a b pos) (dOp f da db) := by
 obtain ⟨ta, pa, aa⟩ := ha
 obtain ⟨tb, pb, ab⟩ := hb
 exact ⟨_, pe_ix ho pa pb hs, ad_op hr aa ab⟩
end
section
variable {K : PySem.W.Frag}
theorem AtT.int {H : Hp} {S : Addr -> Prop} {i : Int} {v : V} (h : AtT K H S (.int i) v) : v = .int i := qb8d (h.at fun _ z => nomatch z)
theorem AtT.str {H : Hp} {S : Addr -> Prop} {i : Str} {v : V} (h : AtT K H S (.str i) v) : v = .str i := qb8e (h.at fun _ z => nomatch z)
theorem AtT.bool {H : Hp} {S : Addr -> Prop} {i : Bool} {v : V} (h : AtT K H S (.bool i) v) : v = .bl i := qb1g (h.at fun _ z => nomatch z)
theorem AtT.none {H : Hp} {S : Addr -> Prop} {v : V} (h : AtT K H S .none v) : v = .non := qc0c (h.at fun _ z => nomatch z)
theorem AtT.tup {H : Hp} {S : Addr -> Prop} {ds : List PyData} {v : V} (h : AtT K H S (.tuple ds) v) : ∃ a xs, v = .ref a /\ SqT K H a xs /\ qa0e K H S ds xs := qa5z (h.at fun _ z => nomatch z)
theorem qa0e.eq_nil {H : Hp} {S : Addr -> Prop} {ds : List PyData} (h : qa0e K H S ds []) : ds = [] := List.eq_nil_of_length_eq_zero h.length.symm
noncomputable def fAdd : F2
 | .int i, .int j => some (.int (i + j))
 | .str x, .str y => if x.length + y.length <= sizeLine then some (.str (x ++ y)) else none
 | .list xs, .list ys => if xs.length + ys.length <= sizeLine then some (.list (xs ++ ys)) else none
 | .tuple xs, .tuple ys => if xs.length + ys.length <= sizeLine then some (.tuple (xs ++ ys)) else none
 | _, _ => none
noncomputable def fSub : F2
 | .int i, .int j => some (.int (i - j))
 | _, _ => none
noncomputable def big64 (i : Int) : Bool := decide (-(2 ^ 64) < i) && decide (i < 2 ^ 64)
noncomputable def fMul : F2
 | .int i, .int j => if big64 i || big64 j then some (.int (i * j)) else none
 | .list xs, .int j => if -(2 ^ 63) <= j /\ j < 2 ^ 63 /\ xs.length * j.toNat <= sizeLine then some (.list (List.replicate j.toNat xs).flatten) else none
 | _, _ => none
noncomputable def fMod : F2
 | .int i, .int j => if 0 < j then some (.int (i % j)) else none
 | _, _ => none
noncomputable def fDiv : F2
 | .int i, .int j => if 0 < j /\ j < 1073741824 then some (.int (i / j)) else none
 | _, _ => none
noncomputable def fCmp (p : Int -> Int -> Bool) : F2
 | .int i, .int j => some (.bool (p i j))
 | _, _ => none
theorem qa3q : AdR K (rI0 fun i j => .int (i - j)) fSub := by
 intro S H x y dx dy z Q f hx hy e k
 unfold fSub at e
 split at e <;> cases e
 rw [hx.int, hy.int]
 exact ⟨_, _, rfl, rfl, k _ _ (Same.refl _) (qa3t _)⟩
theorem qa2r (p : Int -> Int -> Bool) : AdR K (rI0 fun i j => .bl (p i j)) (fCmp p) := by
 intro S H x y dx dy z Q f hx hy e k
 unfold fCmp at e
 split at e <;> cases e
 rw [hx.int, hy.int]
 exact ⟨_, _, rfl, rfl, k _ _ (Same.refl _) (qa2n _)⟩
theorem ad_mod : AdR K (rI (fun _ j => 0 < j) fun i j => .int (i % j)) fMod := by
 intro S H x y dx dy z Q f hx hy e k
 unfold fMod at e
 split at e
 ·split at e
  ·rename_i hc
   cases e
   rw [hx.int, hy.int]
   exact ⟨_, _, rfl, rfl, hc, k _ _ (Same.refl _) (qa3t _)⟩
  ·cases e
 ·cases e
theorem qc2v : AdR K (rI CDiv fun i j => .int (i / j)) fDiv := by
 intro S H x y dx dy z Q f hx hy e k
 unfold fDiv at e
 split at e
 ·split at e
  ·rename_i hc
   cases e
   rw [hx.int, hy.int]
   exact ⟨_, _, rfl, rfl, hc, k _ _ (Same.refl _) (qa3t _)⟩
  ·cases e
 ·cases e
noncomputable def rCat0 (K : PySem.W.Frag) : R2 := fun x y H Q => ∃ a b ys, x = .ref a /\ y = .ref b /\ SqT K H a [] /\ SqT K H b ys /\ Q (.ref b) H
theorem op_cat0 {X : Cx} : OpR X (binaryOp .Add) (rCat0 X.K) := by
 intro pins s σ H x y v u Q I rx ry h
 obtain ⟨a, b, ys, rfl, rfl, ha, hb, q⟩ := h
 cases rx
 cases ry
 obtain ⟨its, r1, p1, _⟩ := I.tuple ha
 obtain ⟨its2, r2, p2, _⟩ := I.tuple hb
 cases r1
 obtain ⟨⟨cls, dd, data, sl⟩, ho, hc, n, hd⟩ := id p1
 obtain ⟨⟨cls2, dd2, data2, sl2⟩, ho2, hc2, n2, hd2⟩ := id p2
 simp only at hc hd hc2 hd2
 subst hc hd hc2 hd2
 exact concat_meets ⟨_, ho, rfl⟩ ⟨_, ho2, rfl⟩ noFill_tuple_add seq_tuple_add PySem.F.slot_tuple_add PySem.F.entry_tuple_add (PySem.F.args_tuple_add_2 _ _)
   (tuple_addW0 a b _ its2.toArray n n2 dd dd2 sl sl2 (by simp)) ⟨ho, ho2, ⟨.ref b, H, I, rfl, q⟩⟩
noncomputable def qd8k (K : PySem.W.Frag) : R2 := fun x y H Q => rI0 (fun i j => .int (i + j)) x y H Q ∨ (∃ i j, x = .str i /\ y = .str j /\ i.length + j.length <= sizeLine /\ Q (.str (i ++ j)) H) ∨ rCat x y H Q ∨ rCatT K x y H Q ∨ rCat0 K x y H Q
theorem qa0u {X : Cx} : OpR X (binaryOp .Add) (qd8k X.K) := qc2n.or (qe0r.or (qc8o.or (op_catT.or op_cat0)))
theorem qa1n : AdR K (qd8k K) fAdd := by
 intro S H x y dx dy z Q f hx hy e k
 unfold fAdd at e
 split at e
 ·cases e
  rw [hx.int, hy.int]
  exact .inl ⟨_, _, rfl, rfl, k _ _ (Same.refl _) (qa3t _)⟩
 ·split at e
  ·rename_i hc
   cases e
   rw [hx.str, hy.str]
   exact .inr (.inl ⟨_, _, rfl, rfl, hc, k _ _ (Same.refl _) (qa9a _)⟩)
  ·cases e
 ·split at e
  ·rename_i hc
   cases e
   obtain ⟨a, vs, rfl, h1, h2⟩ := hx.list
   obtain ⟨b, ws, rfl, h3, h4⟩ := hy.list
   refine .inr (.inr (.inl ⟨a, b, vs, ws, rfl, rfl, h1, h3, by rw [h2.length, h4.length]; exact hc, fun p hp => k _ _ (qa2y hp _) (qc8u (f p hp) hp (h2.append h4))⟩))
  ·cases e
 ·split at e
  ·rename_i hc
   cases e
   obtain ⟨a, vs, rfl, h1, h2⟩ := hx.tup
   obtain ⟨b, ws, rfl, h3, h4⟩ := hy.tup
   by_cases hv : vs = []
   ·subst hv
    obtain rfl := h2.eq_nil
    refine .inr (.inr (.inr (.inr ⟨a, b, ws, rfl, rfl, h1, h3, k _ _ (Same.refl _) ?_⟩)))
    exact qa6d h3 h4
   ·refine .inr (.inr (.inr (.inl ⟨a, b, vs, ws, rfl, rfl, h1, h3, hv, by rw [h2.length, h4.length]; exact hc, fun ew => k _ _ (Same.refl _) ?_, fun ew p hp => k _ _ (qa2y hp _) (qc1g hp (h2.append h4))⟩)))
    subst ew
    obtain rfl := h4.eq_nil
    rw [List.append_nil]
    exact qa6d h1 h2
  ·cases e
 ·cases e
noncomputable def qd8l : R2 := fun x y H Q => rI CMul (fun i j => .int (i * j)) x y H Q ∨ rRep x y H Q
theorem qe3p {X : Cx} : OpR X (binaryOp .Mult) qd8l := qb4f.or op_rep
theorem qa0e.rep {H : Hp} {S : Addr -> Prop} {ds : List PyData} {xs : List V} (h : qa0e K H S ds xs) : ∀ n : Nat, qa0e K H S (List.replicate n ds).flatten (List.replicate n xs).flatten
 | 0 => .nil
 | n + 1 => by
  rw [List.replicate_succ, List.replicate_succ, List.flatten_cons, List.flatten_cons]
  exact h.append (qa0e.rep h n)
theorem ad_mul : AdR K qd8l fMul := by
 intro S H x y dx dy z Q f hx hy e k
 unfold fMul at e
 split at e
 ·split at e
  ·rename_i hc
   cases e
   rw [hx.int, hy.int]
   refine .inl ⟨_, _, rfl, rfl, ?_, k _ _ (Same.refl _) (qa3t _)⟩
   simp only [big64, Bool.or_eq_true, Bool.and_eq_true, decide_eq_true_eq] at hc
   exact hc
  ·cases e
 ·split at e
  ·rename_i hc
   cases e
   obtain ⟨a, vs, rfl, h1, h2⟩ := hx.list
   rw [hy.int]
   exact .inr ⟨a, _, vs, rfl, rfl, h1, hc.1, hc.2.1, by rw [h2.length]; exact hc.2.2, fun p hp => k _ _ (qa2y hp _) (qc8u (f p hp) hp (h2.rep _))⟩
  ·cases e
 ·cases e
noncomputable def fEq (neg : Bool) : F2 := fun d e => if SeqAt.shaped d = true /\ SeqAt.shaped e = true then some (.bool (if neg then !PyData.eqv d e else PyData.eqv d e)) else none
theorem ad_eq {neg : Bool} : AdR K (rEqD K neg) (fEq neg) := by
 intro S H x y dx dy z Q f hx hy e k
 unfold fEq at e
 split at e
 ·rename_i hc
  cases e
  exact ⟨Any, Any, dx, dy, hx.any, hy.any, hc.1, hc.2, k _ _ (Same.refl _) (qa2n _)⟩
 ·cases e
noncomputable def fIx : F2
 | .list xs, .int i => atI xs i
 | .tuple xs, .int i => atI xs i
 | .str x, .int i => if x.length <= sizeLine then (atI x.cps.toList i).map fun c => .str ⟨#[c]⟩ else none
 | _, _ => none
theorem qa0s : AdR K (rIx K) fIx := by
 intro S H x y dx dy z Q f hx hy e k
 unfold fIx at e
 split at e
 ·obtain ⟨a, vs, rfl, h1, h2⟩ := hx.list
  rw [hy.int]
  obtain ⟨v, e1, e2⟩ := qd8j h2 e
  exact .inl ⟨a, vs, _, v, rfl, rfl, SqL.of h1, e1, k _ _ (Same.refl _) e2⟩
 ·obtain ⟨a, vs, rfl, h1, h2⟩ := hx.tup
  rw [hy.int]
  obtain ⟨v, e1, e2⟩ := qd8j h2 e
  exact .inr (.inl ⟨a, vs, _, v, rfl, rfl, h1, e1, k _ _ (Same.refl _) e2⟩)
 ·split at e
  ·rename_i hc
   rw [hx.str, hy.int]
   cases q : atI (PySem.Str.cps _).toList _ with
   | none => rw [q] at e; cases e
   | some cc =>
    rw [q] at e
    cases e
    exact .inr (.inr ⟨_, _, cc, rfl, rfl, hc, q, k _ _ (Same.refl _) (qa9a _)⟩)
  ·cases e
 ·cases e
noncomputable def qa1o : PyData -> Bool
 | .none => true | .bool _ => true | .int _ => true | .str _ => true
 | _ => false
noncomputable def seqD : PyData -> Option (List PyData)
 | .list xs => some xs
 | .tuple xs => some xs
 | _ => none
noncomputable def eqF : PyData -> PyData -> Bool
 | .none, .none => true
 | .bool a, .bool b => a == b
 | .int a, .int b => a == b
 | .bool a, .int b => (if a then (1 : Int) else 0) == b
 | .int a, .bool b => a == (if b then (1 : Int) else 0)
 | .str a, .str b => a == b
 | _, _ => false
noncomputable def inF (x : PyData) (xs : List PyData) : Bool := xs.any fun y => eqF y x
noncomputable def fIn (neg : Bool) : F2 := fun x y => match y with
 | .str z => match x with
  | .str w => some (.bool (if neg then !(!(Builtin.Str.occurrences z w 0 z.length 1).isEmpty) else !(Builtin.Str.occurrences z w 0 z.length 1).isEmpty))
  | _ => none
 | y => match seqD y with
  | some xs => if qa1o x && xs.all qa1o then some (.bool (if neg then !inF x xs else inF x xs)) else none
  | none => none
end
end L2
end
section
namespace L2
open PySem PySem.Spec PyProof.Rows
section
variable {K : PySem.W.Frag} {c : Rc} {O : Own} {ρ : Rho} {σ : St} {H H' : Hp} {S S' : Addr -> Prop}
noncomputable def toV : PyData -> V
 | .bool b => .bl b
 | .int i => .int i
 | .str x => .str x
 | _ => .non
theorem qb1i {d : PyData} {v : V} (h : AtD K H S d v) (f : qa1o d = true) : v = toV d /\ qa9q v = true := by
 cases d with
 | none => rw [qc0c h]; exact ⟨rfl, rfl⟩
 | bool b => rw [qb1g h]; exact ⟨rfl, rfl⟩
 | int i => rw [qb8d h]; exact ⟨rfl, rfl⟩
 | str x => rw [qb8e h]; exact ⟨rfl, rfl⟩
 | _ => cases f
theorem eq_flat {x y : PyData} (fx : qa1o x = true) (fy : qa1o y = true) : eqV (toV y) (toV x) = eqF y x := by
 cases x <;> cases y <;> first | rfl | (cases fx; done) | (cases fy; done)
theorem qc8v {x : PyData} (fx : qa1o x = true) : ∀ {ds : List PyData} {vs : List V}, qa0e K H S ds vs -> ds.all qa1o = true -> vs.all qa9q = true /\ inV (toV x) vs = inF x ds
 | [], vs, h, _ => by rw [h.unnil]; exact ⟨rfl, rfl⟩
 | d :: ds, vs, h, f => by
  obtain ⟨v, r, rfl, h1, h2⟩ := h.uncons
  rw [List.all_cons, Bool.and_eq_true] at f
  obtain ⟨e1, e2⟩ := qb1i h1 f.1
  obtain ⟨e3, e4⟩ := qc8v fx h2 f.2
  refine ⟨by rw [List.all_cons, e2, e3]; rfl, ?_⟩
  show (eqV v (toV x) || inV (toV x) r) = (eqF d x || inF x ds)
  rw [e1, eq_flat fx f.1, e4]
noncomputable def qb8i (K : PySem.W.Frag) (neg : Bool) : R2 := fun x y H Q => rIn K neg x y H Q ∨ (∃ i j, x = .str i /\ y = .str j /\ Q (.bl (if neg then !(!(Builtin.Str.occurrences j i 0 j.length 1).isEmpty) else !(Builtin.Str.occurrences j i 0 j.length 1).isEmpty)) H)
theorem qa5f {X : Cx} : OpR X (compareOp .In) (qb8i X.K false) := qe3k.or qe3h
theorem qa7c {X : Cx} : OpR X (compareOp .NotIn) (qb8i X.K true) := qc8j.or qc8k
theorem AtT.seq {x : PyData} {ds : List PyData} {v : V} (h : AtT K H S x v) (e : seqD x = some ds) : ∃ a vs, v = .ref a /\ (SqL K H a vs ∨ SqT K H a vs) /\ qa0e K H S ds vs := by
 cases x with
 | list xs => cases e; obtain ⟨a, vs, e1, h1, h2⟩ := h.list; exact ⟨a, vs, e1, .inl (SqL.of h1), h2⟩
 | tuple xs => cases e; obtain ⟨a, vs, e1, h1, h2⟩ := h.tup; exact ⟨a, vs, e1, .inr h1, h2⟩
 | _ => cases e
theorem qa5w {neg : Bool} : AdR K (qb8i K neg) (fIn neg) := by
 intro S H x y dx dy z Q f hx hy e k
 unfold fIn at e
 split at e
 ·split at e
  ·cases e
   rw [hx.str, hy.str]
   exact .inr ⟨_, _, rfl, rfl, k _ _ (Same.refl _) (qa2n _)⟩
  ·cases e
 ·split at e
  ·rename_i xs es
   split at e
   ·rename_i hf
    cases e
    rw [Bool.and_eq_true] at hf
    obtain ⟨a, vs, rfl, h1, h2⟩ := hy.seq es
    obtain ⟨e1, e2⟩ := qb1i (hx.at fun ds z => by subst z; exact absurd hf.1 (by simp [qa1o])) hf.1
    obtain ⟨e3, e4⟩ := qc8v hf.1 h2 hf.2
    refine .inl ⟨a, vs, rfl, h1, e2, e3, ?_⟩
    rw [e1, e4]
    exact k _ _ (Same.refl _) (qa2n _)
   ·cases e
  ·cases e
noncomputable def fz (ρ : Rho) (x : DV) (Q : PyData -> Rho -> Prop) : Prop := match x with
 | .d y => Q y ρ
 | .sl i => match ρ[i]?.join with
  | some (.d y) => Q y ρ
  | some (.own xs) => Q (.list xs) (ρ.set i (some (.d (.list xs))))
  | _ => False
theorem qa3g {i : Nat} {l : L} (h : ρ[i]?.join = some l) : ρ[i]? = some (some l) := by
 cases q : ρ[i]? with
 | none => rw [q] at h; cases h
 | some o => rw [q] at h; cases o with
  | none => cases h
  | some l' => cases h; rfl
theorem Rel.fz {x : DV} {v : V} {Q : PyData -> Rho -> Prop} (R : Rel K c O ρ σ H) (a : AtV K (live c O) σ H x v) (h : fz ρ x Q) : ∃ y ρ' O', Q y ρ' /\ Rel K c O' ρ' σ H /\ Pers K (live c O) H (live c O') H /\ AtD K H (live c O') y v := by
 cases x with
 | d y => exact ⟨y, ρ, O, h, R, .refl, a⟩
 | sl i =>
  have a' : σ[i]? = some (some v) := a
  simp only [L2.fz] at h
  split at h
  ·rename_i y e
   have e' := qa3g e
   obtain ⟨w, h1, h2⟩ := R.dat i y e'
   rw [a'] at h1; cases h1
   exact ⟨y, ρ, O, h, R, .refl, h2⟩
  ·rename_i xs e
   have e' := qa3g e
   obtain ⟨R', P⟩ := R.freeze e'
   have hi : i < ρ.length := (List.getElem?_eq_some_iff.mp e').1
   obtain ⟨w, h1, h2⟩ := R'.dat i (.list xs) (by rw [List.getElem?_set_self hi])
   rw [a'] at h1; cases h1
   exact ⟨_, _, _, h, R', P, h2⟩
  ·exact h.elim
noncomputable def fzs : Rho -> List DV -> (List PyData -> Rho -> Prop) -> Prop
 | ρ, [], Q => Q [] ρ
 | ρ, x :: xs, Q => fz ρ x fun y ρ1 => fzs ρ1 xs fun ys ρ2 => Q (y :: ys) ρ2
theorem qd8m {xs : List DV} : ∀ {vs : List V} {ρ : Rho} {O : Own} {Q : List PyData -> Rho -> Prop}, Rel K c O ρ σ H -> AtVs K (live c O) σ H xs vs -> fzs ρ xs Q -> ∃ ys ρ' O', Q ys ρ' /\ Rel K c O' ρ' σ H /\ Pers K (live c O) H (live c O') H /\ qa0e K H (live c O') ys vs := by
 induction xs with
 | nil =>
  intro vs ρ O Q R a h
  cases a
  exact ⟨[], ρ, O, h, R, .refl, .nil⟩
 | cons x xs ih =>
  intro vs ρ O Q R a h
  cases a with
  | cons a as =>
   obtain ⟨y, ρ1, O1, h1, R1, P1, a1⟩ := R.fz a h
   obtain ⟨ys, ρ2, O2, h2, R2, P2, a2⟩ := ih R1 (AtVs.pers as P1) h1
   exact ⟨y :: ys, ρ2, O2, h2, R2, P1.trans P2, .cons (P2 _ _ a1) a2⟩
noncomputable def dNil : TDA := fun ρ Q => Q [] ρ
noncomputable def qa7w (de : TDE) (dr : TDA) : TDA := fun ρ Q => de ρ fun x ρ1 => dr ρ1 fun xs ρ2 => Q (x :: xs) ρ2
theorem ad_nil : AdA K tNil dNil := fun c O ρ σ H Qd Q R h k => k _ _ _ _ _ h R .refl .nil
theorem ad_cons {te : TE} {ta : TA} {de : TDE} {da : TDA} (he : AdE K te de) (ha : AdA K ta da) : AdA K (qa7s te ta) (qa7w de da) := by
 intro c O ρ σ H Qd Q R h k
 refine he c O ρ σ H _ _ R h fun x ρ1 O1 v H1 h1 R1 P1 a1 => ?_
 refine ha c O1 ρ1 σ H1 _ _ R1 h1 fun xs ρ2 O2 vs H2 h2 R2 P2 a2 => ?_
 exact k _ _ _ _ _ h2 R2 (P1.trans P2) (.cons (a1.pers P2) a2)
noncomputable def dTup (da : TDA) : TDE := fun ρ Q => da ρ fun xs ρ1 => fzs ρ1 xs fun ys ρ2 => ys.length <= 1000000 /\ Q (.d (.tuple ys)) ρ2
noncomputable def dLst (da : TDA) : TDF := fun ρ Q => da ρ fun xs ρ1 => fzs ρ1 xs fun ys ρ2 => ys.length <= 1000000 /\ Q ys ρ2
theorem mil {n : Nat} (h : n <= 1000000) : n < sizeLine := Nat.lt_of_le_of_lt h (by decide +kernel)
theorem ad_tup {ta : TA} {da : TDA} (ha : AdA K ta da) : AdE K (tTup ta) (dTup da) := by
 intro c O ρ σ H Qd Q R h k
 refine ha c O ρ σ H _ _ R h fun xs ρ1 O1 vs H1 h1 R1 P1 a1 => ?_
 obtain ⟨ys, ρ2, O2, ⟨hz, h2⟩, R2, P2, a2⟩ := qd8m R1 a1 h1
 refine ⟨by rw [a2.length]; exact Nat.le_of_lt (mil hz), fun p hp => ?_⟩
 have s := qa2y hp (.tup vs)
 exact k _ _ _ _ _ h2 (R2.grow s) ((P1.trans P2).trans (.same s)) (qc1g hp a2)
theorem qc1i {p : Addr} (R : Rel K c O ρ σ H) (hp : H p = none) : qb4l c O p := ⟨R.free0 hp, fun z => R.pin p (.inr z) hp, fun z => R.pin p (.inl z) hp, fun j e => by obtain ⟨_, vs, q⟩ := R.has j p e; rw [hp] at q; cases q⟩
theorem Rel.newL {p : Addr} {ys : List PyData} {vs : List V} (R : Rel K c O ρ σ H) (hp : H p = none) (h : qa0e K H (live c O) ys vs) :
  Rel K (c.add p) O ρ σ (upd H p (.lst vs)) /\ Pers K (live c O) H (live (c.add p) O) (upd H p (.lst vs)) /\ qb4l c O p /\ qa0e K (upd H p (.lst vs)) (live (c.add p) O) ys vs := by
 obtain ⟨R1, P1⟩ := R.lay (o := .lst vs) hp
 exact ⟨R1, P1, qc1i R hp, P1.all h⟩
theorem ad_lst {ta : TA} {da : TDA} (ha : AdA K ta da) : AdF K (tLst ta) (dLst da) := by
 intro c O ρ σ H Qd Q R h k
 refine ha c O ρ σ H _ _ R h fun xs ρ1 O1 vs H1 h1 R1 P1 a1 => ?_
 obtain ⟨ys, ρ2, O2, ⟨hz, h2⟩, R2, P2, a2⟩ := qd8m R1 a1 h1
 refine ⟨by rw [a2.length]; exact Nat.le_of_lt (mil hz), fun p hp => ?_⟩
 obtain ⟨R3, P3, f3, a3⟩ := R2.newL hp a2
 exact k _ _ _ _ _ _ h2 R3 ((P1.trans P2).trans P3) f3 qa0z a3
noncomputable def dFz (df : TDF) : TDE := fun ρ Q => df ρ fun xs ρ1 => Q (.d (.list xs)) ρ1
theorem ad_fz {t : TE} {df : TDF} (h : AdF K t df) : AdE K t (dFz df) := by
 intro c O ρ σ H Qd Q R h0 k
 refine h c O ρ σ H _ _ R h0 fun xs ρ1 O1 p vs H1 h1 R1 P1 f1 hp a1 => ?_
 obtain ⟨R2, P2⟩ := R1.unadd
 exact k _ _ _ _ _ h1 R2 (P1.trans P2) (qa5l ⟨R1.frs p f1.1, f1.2.2.1, f1.2.2.2⟩ hp (P2.all a1))
noncomputable abbrev F2L := PyData -> PyData -> Option (List PyData)
noncomputable def AdRF (K : PySem.W.Frag) (r : R2) (f : F2L) : Prop := ∀ (S : Addr -> Prop) (H : Hp) (x y : V) (dx dy : PyData) (z : List PyData) (Q : VK), AtT K H S dx x -> AtT K H S dy y -> f dx dy = some z ->
 (∀ p vs, H p = none -> qa0e K H S z vs -> Q (.ref p) (upd H p (.lst vs))) -> r x y H Q
noncomputable def dOpF (f : F2L) (da db : TDE) : TDF := fun ρ Q => da ρ fun x ρ1 => db ρ1 fun y ρ2 => need (qa1a ρ2 x) fun dx => need (qa1a ρ2 y) fun dy => need (f dx dy) fun z => Q z ρ2
theorem ad_opF {r : R2} {f : F2L} {ta tb : TE} {da db : TDE} (hr : AdRF K r f) (ha : AdE K ta da) (hb : AdE K tb db) : AdF K (tOp r ta tb) (dOpF f da db) := by
 intro c O ρ σ H Qd Q R h k
 refine ha c O ρ σ H _ _ R h fun x ρ1 O1 v H1 h1 R1 P1 a1 => ?_
 refine hb c O1 ρ1 σ H1 _ _ R1 h1 fun y ρ2 O2 u H2 h2 R2 P2 a2 => ?_
 obtain ⟨dx, e1, h2⟩ := ne h2
 obtain ⟨dy, e2, h2⟩ := ne h2
 obtain ⟨z, e3, h3⟩ := ne h2
 refine hr (live c O2) H2 v u dx dy z Q (R2.top (a1.pers P2) e1) (R2.top a2 e2) e3 fun p vs hp a3 => ?_
 obtain ⟨R3, P3, f3, a4⟩ := R2.newL hp a3
 exact k _ _ _ _ _ _ h3 R3 ((P1.trans P2).trans P3) f3 qa0z a4
noncomputable def fCat : F2L
 | .list xs, .list ys => if xs.length + ys.length <= sizeLine then some (xs ++ ys) else none
 | _, _ => none
theorem ad_cat : AdRF K rCat fCat := by
 intro S H x y dx dy z Q hx hy e k
 unfold fCat at e
 split at e
 ·split at e
  ·rename_i hc
   cases e
   obtain ⟨a, vs, rfl, h1, h2⟩ := hx.list
   obtain ⟨b, ws, rfl, h3, h4⟩ := hy.list
   exact ⟨a, b, vs, ws, rfl, rfl, h1, h3, by rw [h2.length, h4.length]; exact hc, fun p hp => k p _ hp (h2.append h4)⟩
  ·cases e
 ·cases e
noncomputable def qa6a (ρ : Rho) : List DV -> Option (List PyData)
 | [] => some []
 | x :: xs => (qa1a ρ x).bind fun y => (qa6a ρ xs).map (y :: ·)
noncomputable def AtTs (K : PySem.W.Frag) (H : Hp) (S : Addr -> Prop) : List PyData -> List V -> Prop := Paired (AtT K H S)
theorem Rel.tops (R : Rel K c O ρ σ H) {xs : List DV} : ∀ {vs : List V} {ds : List PyData}, AtVs K (live c O) σ H xs vs -> qa6a ρ xs = some ds -> AtTs K H (live c O) ds vs := by
 induction xs with
 | nil =>
  intro vs ds a e
  cases a; cases e; exact .nil
 | cons x xs ih =>
  intro vs ds a e
  cases a with
  | cons a as =>
   unfold qa6a at e
   cases q : qa1a ρ x with
   | none => rw [q] at e; cases e
   | some y =>
    rw [q] at e
    have e' : (qa6a ρ xs).map (y :: ·) = some ds := e
    cases q2 : qa6a ρ xs with
    | none => rw [q2] at e'; cases e'
    | some ys =>
     rw [q2] at e'
     cases e'
     exact .cons (R.top a q) (ih as q2)
noncomputable abbrev FC := List PyData -> Option PyData
noncomputable abbrev FCL := List PyData -> Option (List PyData)
noncomputable def AdC (K : PySem.W.Frag) (r : List V -> Hp -> VK -> Prop) (f : FC) : Prop := ∀ (S : Addr -> Prop) (H : Hp) (vs : List V) (ds : List PyData) (z : PyData) (Q : VK), Frs S H -> AtTs K H S ds vs -> f ds = some z ->
 (∀ v H', Same H H' -> AtD K H' S z v -> Q v H') -> r vs H Q
noncomputable def AdCF (K : PySem.W.Frag) (r : List V -> Hp -> VK -> Prop) (f : FCL) : Prop := ∀ (S : Addr -> Prop) (H : Hp) (vs : List V) (ds : List PyData) (z : List PyData) (Q : VK), AtTs K H S ds vs -> f ds = some z ->
 (∀ p ws, H p = none -> qa0e K H S z ws -> Q (.ref p) (upd H p (.lst ws))) -> r vs H Q
noncomputable def dCB (f : FC) (da : TDA) : TDE := fun ρ Q => da ρ fun xs ρ1 => need (qa6a ρ1 xs) fun ds => need (f ds) fun z => Q (.d z) ρ1
noncomputable def dCBF (f : FCL) (da : TDA) : TDF := fun ρ Q => da ρ fun xs ρ1 => need (qa6a ρ1 xs) fun ds => need (f ds) fun z => Q z ρ1
theorem ad_cb {r : List V -> Hp -> VK -> Prop} {f : FC} {ta : TA} {da : TDA} (hr : AdC K r f) (ha : AdA K ta da) : AdE K (tCB r ta) (dCB f da) := by
 intro c O ρ σ H Qd Q R h k
 refine ha c O ρ σ H _ _ R h fun xs ρ1 O1 vs H1 h1 R1 P1 a1 => ?_
 obtain ⟨ds, e1, h1⟩ := ne h1
 obtain ⟨z, e2, h2⟩ := ne h1
 refine hr (live c O1) H1 vs ds z Q R1.frsLive (R1.tops a1 e1) e2 fun v H2 s2 a2 => ?_
 exact k _ _ _ _ _ h2 (R1.grow s2) (P1.trans (.same s2)) a2
theorem ad_cbF {r : List V -> Hp -> VK -> Prop} {f : FCL} {ta : TA} {da : TDA} (hr : AdCF K r f) (ha : AdA K ta da) : AdF K (tCB r ta) (dCBF f da) := by
 intro c O ρ σ H Qd Q R h k
 refine ha c O ρ σ H _ _ R h fun xs ρ1 O1 vs H1 h1 R1 P1 a1 => ?_
 obtain ⟨ds, e1, h1⟩ := ne h1
 obtain ⟨z, e2, h2⟩ := ne h1
 refine hr (live c O1) H1 vs ds z Q (R1.tops a1 e1) e2 fun p ws hp a2 => ?_
 obtain ⟨R3, P3, f3, a4⟩ := R1.newL hp a2
 exact k _ _ _ _ _ _ h2 R3 (P1.trans P3) f3 qa0z a4
theorem AtTs.one {d : PyData} {vs : List V} (h : AtTs K H S [d] vs) : ∃ v, vs = [v] /\ AtT K H S d v := by
 cases h with
 | cons h t => cases t; exact ⟨_, rfl, h⟩
noncomputable def fLen : FC
 | [.list xs] => some (.int xs.length)
 | [.tuple xs] => some (.int xs.length)
 | [.str x] => if x.length <= sizeLine then some (.int x.length) else none
 | _ => none
noncomputable def qd8n (K : PySem.W.Frag) : List V -> Hp -> VK -> Prop := fun xs H Q => (∃ p ys, xs = [.ref p] /\ (SqL K H p ys ∨ SqT K H p ys) /\ Q (.int ys.length) H) ∨ (∃ z, xs = [.str z] /\ z.length <= sizeLine /\ Q (.int z.length) H)
theorem qa0w {X : Cx} : qa3z X (.builtin "len") (qd8n X.K) := qa7t.or qc8l
theorem qa1w : AdC K (qd8n K) fLen := by
 intro S H vs ds z Q f h e k
 unfold fLen at e
 split at e
 ·cases e
  obtain ⟨v, rfl, h1⟩ := h.one
  obtain ⟨a, ws, rfl, h2, h3⟩ := h1.list
  exact .inl ⟨a, ws, rfl, .inl (SqL.of h2), by rw [h3.length]; exact k _ _ (Same.refl _) (qa3t _)⟩
 ·cases e
  obtain ⟨v, rfl, h1⟩ := h.one
  obtain ⟨a, ws, rfl, h2, h3⟩ := h1.tup
  exact .inl ⟨a, ws, rfl, .inr h2, by rw [h3.length]; exact k _ _ (Same.refl _) (qa3t _)⟩
 ·split at e
  ·rename_i hc
   cases e
   obtain ⟨v, rfl, h1⟩ := h.one
   rw [h1.str]
   exact .inr ⟨_, rfl, hc, k _ _ (Same.refl _) (qa3t _)⟩
  ·cases e
 ·cases e
noncomputable def fTuple : FC
 | [.list xs] => some (.tuple xs)
 | [.tuple xs] => some (.tuple xs)
 | _ => none
noncomputable def fList : FCL
 | [.list xs] => some xs
 | [.tuple xs] => some xs
 | _ => none
theorem qd8o : AdCF K (fun xs H Q => ∃ p ys, xs = [.ref p] /\ (SqL K H p ys ∨ SqT K H p ys) /\ ∀ l, H l = none -> Q (.ref l) (upd H l (.lst ys))) fList := by
 intro S H vs ds z Q h e k
 unfold fList at e
 split at e
 ·cases e
  obtain ⟨v, rfl, h1⟩ := h.one
  obtain ⟨a, ws, rfl, h2, h3⟩ := h1.list
  exact ⟨a, ws, rfl, .inl (SqL.of h2), fun l hl => k _ _ hl h3⟩
 ·cases e
  obtain ⟨v, rfl, h1⟩ := h.one
  obtain ⟨a, ws, rfl, h2, h3⟩ := h1.tup
  exact ⟨a, ws, rfl, .inr h2, fun l hl => k _ _ hl h3⟩
 ·cases e
end
section
variable {X : Cx} {a b e : Expr} {es : List Expr} {da db de : TDE} {daa : TDA} {pos : Pos}
theorem qa0b : DA X [] dNil := ⟨_, qa5k, ad_nil⟩
theorem qa0a (he : DE X e de) (ha : DA X es daa) (hs : starEach (e :: es) X.env = (false, eval e X.env) :: starEach es X.env := by rfl) : DA X (e :: es) (qa7w de daa) := by
 obtain ⟨te, p1, a1⟩ := he
 obtain ⟨ta, p2, a2⟩ := ha
 exact ⟨_, qa2g p1 p2 hs, ad_cons a1 a2⟩
theorem qa0j {x1} (ha : DA X es daa) : DE X (.Tuple es x1 pos) (dTup daa) := by obtain ⟨t, p, a⟩ := ha; exact ⟨_, pe_tup p, ad_tup a⟩
theorem qa1k (ha : DA X es daa) : DF X (.List es pos) (dLst daa) := by obtain ⟨t, p, a⟩ := ha; exact ⟨_, pe_lst p, ad_lst a⟩
theorem qa1m {df : TDF} (h : DF X e df) : DE X e (dFz df) := by obtain ⟨t, p, a⟩ := h; exact ⟨t, p, ad_fz a⟩
theorem df_op {op : Operator} {r : R2} {f : F2L} (ho : OpR X (binaryOp op) r) (hr : AdRF X.K r f) (ha : DE X a da) (hb : DE X b db) : DF X (.BinOp a op b pos) (dOpF f da db) := by
 obtain ⟨ta, pa, aa⟩ := ha
 obtain ⟨tb, pb, ab⟩ := hb
 exact ⟨_, qa4a ho pa pb, ad_opF hr aa ab⟩
theorem qa1l {x : Str} {p : Pos} {id : String} {r : List V -> Hp -> VK -> Prop} {f : FC} (hc : qa3z X (.builtin id) r) (hr : AdC X.K r f) (hg : Gl X x) (hm : X.mg x = none) (hv : bootBuiltins x = some (.builtin id)) (ha : DA X (e :: es) daa) (hn : x ≠ "__name__" := by decide) (hdb : (x == ("__debug__" : Str)) = false := by decide)
  (he : starEach (e :: es) X.env = (false, eval e X.env) :: starEach es X.env := by rfl) (hpl : (backTo pos (starEach es X.env)).any (·.1) = false := by rfl) : DE X (.Call (.Name x p) (e :: es) [] pos) (dCB f daa) := by
 obtain ⟨ta, pa, aa⟩ := ha
 exact ⟨_, qb1o hc hg hm hv pa hn hdb he hpl, ad_cb hr aa⟩
theorem qe3q {x : Str} {p : Pos} {T : String} {r : List V -> Hp -> VK -> Prop} {f : FC} (hc : qa3z X (.type T) r) (hr : AdC X.K r f) (hg : Gl X x) (hm : X.mg x = none) (hv : bootBuiltins x = some (.type T)) (ha : DA X (e :: es) daa) (hn : x ≠ "__name__" := by decide) (hdb : (x == ("__debug__" : Str)) = false := by decide)
  (he : starEach (e :: es) X.env = (false, eval e X.env) :: starEach es X.env := by rfl) (hpl : (backTo pos (starEach es X.env)).any (·.1) = false := by rfl) : DE X (.Call (.Name x p) (e :: es) [] pos) (dCB f daa) := by
 obtain ⟨ta, pa, aa⟩ := ha
 exact ⟨_, qc6i hc hg hm hv pa hn hdb he hpl, ad_cb hr aa⟩
theorem qc6m {x : Str} {p : Pos} {T : String} {r : List V -> Hp -> VK -> Prop} {f : FCL} (hc : qa3z X (.type T) r) (hr : AdCF X.K r f) (hg : Gl X x) (hm : X.mg x = none) (hv : bootBuiltins x = some (.type T)) (ha : DA X (e :: es) daa) (hn : x ≠ "__name__" := by decide) (hdb : (x == ("__debug__" : Str)) = false := by decide)
  (he : starEach (e :: es) X.env = (false, eval e X.env) :: starEach es X.env := by rfl) (hpl : (backTo pos (starEach es X.env)).any (·.1) = false := by rfl) : DF X (.Call (.Name x p) (e :: es) [] pos) (dCBF f daa) := by
 obtain ⟨ta, pa, aa⟩ := ha
 exact ⟨_, qc6i hc hg hm hv pa hn hdb he hpl, ad_cbF hr aa⟩
end
end L2
end
section
namespace L2
open PySem PySem.Spec PyProof.Rows
section
variable {K : PySem.W.Frag} {c : Rc} {O : Own} {ρ : Rho} {σ : St} {H H' : Hp} {S S' : Addr -> Prop}
noncomputable def asB : PyData -> Option Bool
 | .bool b => some b
 | _ => none
noncomputable def dB (de : TDE) : TDT := fun ρ Q => de ρ fun x ρ1 => need (qa1a ρ1 x) fun d => need (asB d) fun b => Q b ρ1
theorem ad_b {t : TE} {de : TDE} (h : AdE K t de) : AdT K (fun σ H Q => t σ H fun x H' => ∃ k, x = .bl k /\ Q k H') (dB de) := by
 intro c O ρ σ H Qd Q R h0 k
 refine h c O ρ σ H _ _ R h0 fun x ρ1 O1 v H1 h1 R1 P1 a1 => ?_
 obtain ⟨d, e1, h1⟩ := ne h1
 obtain ⟨b, e2, h2⟩ := ne h1
 have a2 := R1.top a1 e1
 cases d with
 | bool b' => cases e2; exact ⟨b, a2.bool, k _ _ _ _ h2 R1 P1⟩
 | _ => cases e2
noncomputable def tru : PyData -> Option Bool
 | .none => some false
 | .bool b => some b
 | .int i => some (i != 0)
 | .str x => if x.length <= sizeLine then some ((x.length : Int) != 0) else none
 | .list xs => some (!xs.isEmpty)
 | .tuple xs => some (!xs.isEmpty)
 | .dict _ => none
noncomputable def dTru (de : TDE) : TDT := fun ρ Q => de ρ fun x ρ1 => need (qa1a ρ1 x) fun d => need (tru d) fun b => Q b ρ1
theorem qa0e.empty {ds : List PyData} {vs : List V} (h : qa0e K H S ds vs) : (!vs.isEmpty) = !ds.isEmpty := by
 have := h.length
 cases ds <;> cases vs <;> simp at this ⊢
theorem ad_tru {t : TE} {de : TDE} (h : AdE K t de) : AdT K (fun σ H Q => t σ H fun x H' => ∃ k, TruV K x H' k /\ Q k H') (dTru de) := by
 intro c O ρ σ H Qd Q R h0 k
 refine h c O ρ σ H _ _ R h0 fun x ρ1 O1 v H1 h1 R1 P1 a1 => ?_
 obtain ⟨d, e1, h1⟩ := ne h1
 obtain ⟨b, e2, h2⟩ := ne h1
 have a2 := R1.top a1 e1
 refine ⟨b, ?_, k _ _ _ _ h2 R1 P1⟩
 cases d with
 | none => cases e2; rw [a2.none]; rfl
 | bool b' => cases e2; rw [a2.bool]; rfl
 | int i => cases e2; rw [a2.int]; rfl
 | str x =>
  simp only [tru] at e2
  split at e2
  ·rename_i hc
   cases e2; rw [a2.str]; exact ⟨hc, rfl⟩
  ·cases e2
 | list xs =>
  cases e2
  obtain ⟨a, vs, rfl, h3, h4⟩ := a2.list
  exact .inl ⟨vs, SqL.of h3, h4.empty.symm⟩
 | tuple xs =>
  cases e2
  obtain ⟨a, vs, rfl, h3, h4⟩ := a2.tup
  exact .inr (.inl ⟨vs, h3, h4.empty.symm⟩)
 | dict _ => cases e2
noncomputable def dAnd (t u : TDT) : TDT := fun ρ Q => t ρ fun b ρ1 => if b = true then u ρ1 Q else Q false ρ1
noncomputable def dOr (t u : TDT) : TDT := fun ρ Q => t ρ fun b ρ1 => if b = true then Q true ρ1 else u ρ1 Q
noncomputable def dNot (t : TDT) : TDT := fun ρ Q => t ρ fun b ρ1 => Q (!b) ρ1
theorem ad_and {t u : TT} {dt du : TDT} (h : AdT K t dt) (h' : AdT K u du) : AdT K (tAnd t u) (dAnd dt du) := by
 intro c O ρ σ H Qd Q R h0 k
 refine h c O ρ σ H _ _ R h0 fun b ρ1 O1 H1 h1 R1 P1 => ?_
 cases b with
 | true => rw [if_pos rfl] at h1 ⊢; exact h' c O1 ρ1 σ H1 _ _ R1 h1 fun b ρ2 O2 H2 h2 R2 P2 => k _ _ _ _ h2 R2 (P1.trans P2)
 | false => rw [if_neg Bool.false_ne_true] at h1 ⊢; exact k _ _ _ _ h1 R1 P1
theorem ad_or {t u : TT} {dt du : TDT} (h : AdT K t dt) (h' : AdT K u du) : AdT K (tOr t u) (dOr dt du) := by
 intro c O ρ σ H Qd Q R h0 k
 refine h c O ρ σ H _ _ R h0 fun b ρ1 O1 H1 h1 R1 P1 => ?_
 cases b with
 | true => rw [if_pos rfl] at h1 ⊢; exact k _ _ _ _ h1 R1 P1
 | false => rw [if_neg Bool.false_ne_true] at h1 ⊢; exact h' c O1 ρ1 σ H1 _ _ R1 h1 fun b ρ2 O2 H2 h2 R2 P2 => k _ _ _ _ h2 R2 (P1.trans P2)
theorem ad_not {t : TT} {dt : TDT} (h : AdT K t dt) : AdT K (tNot t) (dNot dt) := by
 intro c O ρ σ H Qd Q R h0 k
 exact h c O ρ σ H _ _ R h0 fun b ρ1 O1 H1 h1 R1 P1 => k _ _ _ _ h1 R1 P1
noncomputable def dIfE (c : TDT) (a b : TDE) : TDE := fun ρ Q => c ρ fun k ρ1 => if k = true then a ρ1 Q else b ρ1 Q
theorem ad_ifE {t : TT} {ta tb : TE} {dt : TDT} {da db : TDE} (h : AdT K t dt) (ha : AdE K ta da) (hb : AdE K tb db) : AdE K (tIf t ta tb) (dIfE dt da db) := by
 intro c O ρ σ H Qd Q R h0 k
 refine h c O ρ σ H _ _ R h0 fun b ρ1 O1 H1 h1 R1 P1 => ?_
 cases b with
 | true => rw [if_pos rfl] at h1 ⊢; exact ha c O1 ρ1 σ H1 _ _ R1 h1 fun x ρ2 O2 v H2 h2 R2 P2 a2 => k _ _ _ _ _ h2 R2 (P1.trans P2) a2
 | false => rw [if_neg Bool.false_ne_true] at h1 ⊢; exact hb c O1 ρ1 σ H1 _ _ R1 h1 fun x ρ2 O2 v H2 h2 R2 P2 a2 => k _ _ _ _ _ h2 R2 (P1.trans P2) a2
theorem qc1j : AtV K S σ H (.d .none) .non := (qb1t : AtD K H S .none .non)
theorem qb1v {b : Bool} : AtV K S σ H (.d (.bool b)) (.bl b) := (qa2n b : AtD K H S (.bool b) (.bl b))
noncomputable def dAndV (a b : TDE) : TDE := fun ρ Q => a ρ fun x ρ1 => need (qa1a ρ1 x) fun d => need (asB d) fun k => if k = true then b ρ1 Q else Q (.d (.bool false)) ρ1
noncomputable def dOrV (a b : TDE) : TDE := fun ρ Q => a ρ fun x ρ1 => need (qa1a ρ1 x) fun d => need (asB d) fun k => if k = true then Q (.d (.bool true)) ρ1 else b ρ1 Q
theorem qc2w {d : PyData} {v : V} {b : Bool} (h : AtT K H S d v) (e : asB d = some b) : v = .bl b := by
 cases d with
 | bool b' => cases e; exact h.bool
 | _ => cases e
theorem ad_andV {ta tb : TE} {da db : TDE} (ha : AdE K ta da) (hb : AdE K tb db) : AdE K (tAndV ta tb) (dAndV da db) := by
 intro c O ρ σ H Qd Q R h0 k
 refine ha c O ρ σ H _ _ R h0 fun x ρ1 O1 v H1 h1 R1 P1 a1 => ?_
 obtain ⟨d, e1, h1⟩ := ne h1
 obtain ⟨b, e2, h2⟩ := ne h1
 refine ⟨b, qc2w (R1.top a1 e1) e2, ?_⟩
 cases b with
 | true => rw [if_pos rfl] at h2 ⊢; exact hb c O1 ρ1 σ H1 _ _ R1 h2 fun x ρ2 O2 v H2 h2 R2 P2 a2 => k _ _ _ _ _ h2 R2 (P1.trans P2) a2
 | false => rw [if_neg Bool.false_ne_true] at h2 ⊢; exact k _ _ _ _ _ h2 R1 P1 qb1v
theorem ad_orV {ta tb : TE} {da db : TDE} (ha : AdE K ta da) (hb : AdE K tb db) : AdE K (tOrV ta tb) (dOrV da db) := by
 intro c O ρ σ H Qd Q R h0 k
 refine ha c O ρ σ H _ _ R h0 fun x ρ1 O1 v H1 h1 R1 P1 a1 => ?_
 obtain ⟨d, e1, h1⟩ := ne h1
 obtain ⟨b, e2, h2⟩ := ne h1
 refine ⟨b, qc2w (R1.top a1 e1) e2, ?_⟩
 cases b with
 | true => rw [if_pos rfl] at h2 ⊢; exact k _ _ _ _ _ h2 R1 P1 qb1v
 | false => rw [if_neg Bool.false_ne_true] at h2 ⊢; exact hb c O1 ρ1 σ H1 _ _ R1 h2 fun x ρ2 O2 v H2 h2 R2 P2 a2 => k _ _ _ _ _ h2 R2 (P1.trans P2) a2
noncomputable def dNotV (a : TDE) : TDE := fun ρ Q => a ρ fun x ρ1 => need (qa1a ρ1 x) fun d => need (asB d) fun k => Q (.d (.bool (!k))) ρ1
theorem ad_notV {ta : TE} {da : TDE} (ha : AdE K ta da) : AdE K (tNotV ta) (dNotV da) := by
 intro c O ρ σ H Qd Q R h0 k
 refine ha c O ρ σ H _ _ R h0 fun x ρ1 O1 v H1 h1 R1 P1 a1 => ?_
 obtain ⟨d, e1, h1⟩ := ne h1
 obtain ⟨b, e2, h2⟩ := ne h1
 exact ⟨b, qc2w (R1.top a1 e1) e2, k _ _ _ _ _ h2 R1 P1 qb1v⟩
noncomputable def qc2x (f f' : F2) (da db dc : TDE) : TDE := fun ρ Q => da ρ fun x ρ1 => db ρ1 fun y ρ2 => need (qa1a ρ2 x) fun dx => need (qa1a ρ2 y) fun dy => need (f dx dy) fun z => need (asB z) fun k =>
 if k = true then dc ρ2 fun w ρ3 => need (qa1a ρ3 y) fun dy => need (qa1a ρ3 w) fun dw => need (f' dy dw) fun z' => Q (.d z') ρ3 else Q (.d (.bool false)) ρ2
theorem qc8w {r r' : R2} {f f' : F2} {ta tb tc : TE} {da db dc : TDE} (hr : AdR K r f) (hr' : AdR K r' f') (ha : AdE K ta da) (hb : AdE K tb db) (hc : AdE K tc dc) : AdE K (qc8f r r' ta tb tc) (qc2x f f' da db dc) := by
 intro c O ρ σ H Qd Q R h k
 refine ha c O ρ σ H _ _ R h fun x ρ1 O1 v H1 h1 R1 P1 a1 => ?_
 refine hb c O1 ρ1 σ H1 _ _ R1 h1 fun y ρ2 O2 u H2 h2 R2 P2 a2 => ?_
 obtain ⟨dx, e1, h2⟩ := ne h2
 obtain ⟨dy, e2, h2⟩ := ne h2
 obtain ⟨z, e3, h2⟩ := ne h2
 obtain ⟨b, e4, h3⟩ := ne h2
 refine hr (live c O2) H2 v u dx dy z _ R2.frsLive (R2.top (a1.pers P2) e1) (R2.top a2 e2) e3 fun w H3 s3 a3 => ?_
 have R3 := R2.grow s3
 have P3 : Pers K (live c O2) H2 (live c O2) H3 := .same s3
 refine ⟨b, qc2w (.inl a3) e4, ?_⟩
 cases b with
 | false => rw [if_neg Bool.false_ne_true] at h3 ⊢; exact k _ _ _ _ _ h3 R3 ((P1.trans P2).trans P3) qb1v
 | true =>
  rw [if_pos rfl] at h3 ⊢
  refine hc c O2 ρ2 σ H3 _ _ R3 h3 fun w ρ4 O4 u4 H4 h4 R4 P4 a4 => ?_
  obtain ⟨dy', e5, h4⟩ := ne h4
  obtain ⟨dw, e6, h4⟩ := ne h4
  obtain ⟨z', e7, h5⟩ := ne h4
  refine hr' (live c O4) H4 u u4 dy' dw z' Q R4.frsLive (R4.top ((a2.pers P3).pers P4) e5) (R4.top a4 e6) e7 fun w5 H5 s5 a5 => ?_
  exact k _ _ _ _ _ h5 (R4.grow s5) ((((P1.trans P2).trans P3).trans P4).trans (.same s5)) a5
end
section
variable {X : Cx} {a b c e : Expr} {rest : List Expr} {da db dc de : TDE} {dt du : TDT} {pos : Pos}
theorem qa2b (h : DE X e de) (he : ∀ whole, isTrue e X.env whole = (do let v ← whole; standAt e.pos; holding [v] (truthy v)) := by intro _; rfl) : DT X e (dB de) := by
 obtain ⟨t, p, a⟩ := h
 exact ⟨_, pt_val p he, ad_b a⟩
theorem qc8x (h : DE X e de) (he : ∀ whole, isTrue e X.env whole = (do let v ← whole; standAt e.pos; holding [v] (truthy v)) := by intro _; rfl) : DT X e (dTru de) := by
 obtain ⟨t, p, a⟩ := h
 exact ⟨_, qe5l p he, ad_tru a⟩
theorem qa0o {op : CmpOp} {r : R2} {f : F2} (ho : OpR X (compareOp op) r) (hr : AdR X.K r f) (ha : DE X a da) (hb : DE X b db) (hm : behindInMarks op b = false) : DT X (.Compare a [op] [b] pos) (dB (dOp f da db)) := by
 obtain ⟨ta, pa, aa⟩ := ha
 obtain ⟨tb, pb, ab⟩ := hb
 exact ⟨_, qb9z ho pa pb hm, ad_b (ad_op hr aa ab)⟩
theorem qe5w {op op' : CmpOp} {r r' : R2} {f f' : F2} (ho : OpR X (compareOp op) r) (hr : AdR X.K r f) (ho' : OpR X (compareOp op') r') (hr' : AdR X.K r' f') (ha : DE X a da) (hb : DE X b db) (hc : DE X c dc)
  (hm : lastMarks [op, op'] [b, c] = false := by with_unfolding_all rfl) : DT X (.Compare a [op, op'] [b, c] pos) (dB (qc2x f f' da db dc)) := by
 obtain ⟨ta, pa, aa⟩ := ha
 obtain ⟨tb, pb, ab⟩ := hb
 obtain ⟨tc, pc, ac⟩ := hc
 exact ⟨_, qe5k ho ho' pa pb pc hm, ad_b (qc8w hr hr' aa ab ac)⟩
theorem qb5f {op op' : CmpOp} {r r' : R2} {f f' : F2} (ho : OpR X (compareOp op) r) (hr : AdR X.K r f) (ho' : OpR X (compareOp op') r') (hr' : AdR X.K r' f') (ha : DE X a da) (hb : DE X b db) (hc : DE X c dc)
  (hm : lastMarks [op, op'] [b, c] = false := by with_unfolding_all rfl) : DE X (.Compare a [op, op'] [b, c] pos) (qc2x f f' da db dc) := by
 obtain ⟨ta, pa, aa⟩ := ha
 obtain ⟨tb, pb, ab⟩ := hb
 obtain ⟨tc, pc, ac⟩ := hc
 exact ⟨_, qe5j ho ho' pa pb pc hm, qc8w hr hr' aa ab ac⟩
theorem DW.toT (h : DW X e dt) : DT X e dt := let ⟨t, p, a⟩ := h; ⟨t, p.pt, a⟩
theorem qa6t (ha : DT X a dt) : DW X (.BoolOp .And [a] pos) dt := let ⟨t, p, a⟩ := ha; ⟨t, pw_and1 p, a⟩
theorem qa4q (ha : DT X a dt) : DW X (.BoolOp .Or [a] pos) dt := let ⟨t, p, a⟩ := ha; ⟨t, pw_or1 p, a⟩
theorem qa7d (ha : DT X a dt) (hb : DW X (.BoolOp .And (b :: rest) pos) du) : DW X (.BoolOp .And (a :: b :: rest) pos) (dAnd dt du) := let ⟨_, p, a⟩ := ha; let ⟨_, p', a'⟩ := hb; ⟨_, pw_and p p', ad_and a a'⟩
theorem qa3u (ha : DT X a dt) (hb : DW X (.BoolOp .Or (b :: rest) pos) du) : DW X (.BoolOp .Or (a :: b :: rest) pos) (dOr dt du) := let ⟨_, p, a⟩ := ha; let ⟨_, p', a'⟩ := hb; ⟨_, pw_or p p', ad_or a a'⟩
theorem qa3b (ha : DT X a dt) : DT X (.UnaryOp .Not a pos) (dNot dt) := let ⟨_, p, a⟩ := ha; ⟨_, pt_not p, ad_not a⟩
theorem qa5m {op} (h : DE X a da) : DE X (.BoolOp op [a] pos) da := let ⟨t, p, a⟩ := h; ⟨t, pe_one p, a⟩
theorem qa4h (ha : DE X a da) (hb : DE X (.BoolOp .And (b :: rest) pos) db) : DE X (.BoolOp .And (a :: b :: rest) pos) (dAndV da db) := let ⟨_, p, a⟩ := ha; let ⟨_, p', a'⟩ := hb; ⟨_, pe_and p p', ad_andV a a'⟩
theorem de_or (ha : DE X a da) (hb : DE X (.BoolOp .Or (b :: rest) pos) db) : DE X (.BoolOp .Or (a :: b :: rest) pos) (dOrV da db) := let ⟨_, p, a⟩ := ha; let ⟨_, p', a'⟩ := hb; ⟨_, pe_or p p', ad_orV a a'⟩
theorem de_not (ha : DE X a da) : DE X (.UnaryOp .Not a pos) (dNotV da) := let ⟨_, p, a⟩ := ha; ⟨_, pe_not p, ad_notV a⟩
theorem de_if (hc : DT X c dt) (ha : DE X a da) (hb : DE X b db) : DE X (.IfExp c a b pos) (dIfE dt da db) := let ⟨_, p, a⟩ := hc; let ⟨_, p', a'⟩ := ha; let ⟨_, p2, a2⟩ := hb; ⟨_, qe5f p p' p2, ad_ifE a a' a2⟩
end
inductive RV where
 | d (x : PyData)
 | new (xs : List PyData)
structure DEnds where
 nx : Rho -> Prop
 rt : RV -> Rho -> Prop
 bk : Rho -> Prop := fun _ => False
 ct : Rho -> Prop := fun _ => False
noncomputable abbrev TDS := DEnds -> Rho -> Prop
noncomputable def RetOk (K : PySem.W.Frag) (c : Rc) (O : Own) (ρ : Rho) (σ : St) (H : Hp) : RV -> V -> Prop
 | .d x, v => Rel K c O ρ σ H /\ AtD K H (live c O) x v
 | .new xs, v => ∃ p vs, v = .ref p /\ Rel K (c.add p) O ρ σ H /\ qb4l c O p /\ H p = some (.lst vs) /\ qa0e K H (live (c.add p) O) xs vs
structure EndsOk (K : PySem.W.Frag) (c : Rc) (S0 : Addr -> Prop) (H0 : Hp) (D : Ends) (Dd : DEnds) : Prop where
 nx : ∀ O ρ σ H, Rel K c O ρ σ H -> Pers K S0 H0 (live c O) H -> Dd.nx ρ -> D.nx σ H
 rt : ∀ r O ρ σ H v, RetOk K c O ρ σ H r v -> Dd.rt r ρ -> D.rt v H
 bk : ∀ O ρ σ H, Rel K c O ρ σ H -> Pers K S0 H0 (live c O) H -> Dd.bk ρ -> D.bk σ H
 ct : ∀ O ρ σ H, Rel K c O ρ σ H -> Pers K S0 H0 (live c O) H -> Dd.ct ρ -> D.ct σ H
 mb : ∀ p, c.M p -> c.B p
 oa : ∀ p, c.H0 p = none -> c.A p
theorem EndsOk.later {K : PySem.W.Frag} {c : Rc} {S0 S1 : Addr -> Prop} {H0 H1 : Hp} {D : Ends} {Dd : DEnds} (E : EndsOk K c S0 H0 D Dd) (P : Pers K S0 H0 S1 H1) : EndsOk K c S1 H1 D Dd :=
 ⟨fun O ρ σ H R q => E.nx O ρ σ H R (P.trans q), E.rt, fun O ρ σ H R q => E.bk O ρ σ H R (P.trans q), fun O ρ σ H R q => E.ct O ρ σ H R (P.trans q), E.mb, E.oa⟩
noncomputable def AdS (K : PySem.W.Frag) (t : TS) (dt : TDS) : Prop := ∀ (c : Rc) (O : Own) (ρ : Rho) (σ : St) (H : Hp) (D : Ends) (Dd : DEnds), Rel K c O ρ σ H -> EndsOk K c (live c O) H D Dd -> dt Dd ρ -> t D σ H
noncomputable def DS (X : Cx) (st : Stmt) (dt : TDS) : Prop := ∃ t, PS X st t /\ AdS X.K t dt
noncomputable def DSs (X : Cx) (st : List Stmt) (dt : TDS) : Prop := ∃ t, PSs X st t /\ AdS X.K t dt
section
variable {K : PySem.W.Frag} {c : Rc} {O : Own} {ρ : Rho} {σ : St} {H H' : Hp} {S S' : Addr -> Prop}
noncomputable def dNext : TDS := fun D ρ => D.nx ρ
noncomputable def dSeq (t u : TDS) : TDS := fun D ρ => t { D with nx := u D } ρ
theorem ad_next : AdS K tNext dNext := fun c O ρ σ H D Dd R E h => E.nx O ρ σ H R .refl h
theorem ad_seq {t u : TS} {dt du : TDS} (h : AdS K t dt) (h' : AdS K u du) : AdS K (tSeq t u) (dSeq dt du) := fun c O ρ σ H D Dd R E q =>
 h c O ρ σ H { D with nx := u D } { Dd with nx := du Dd } R ⟨fun O1 ρ1 σ1 H1 R1 P1 q1 => h' c O1 ρ1 σ1 H1 D Dd R1 (E.later P1) q1, E.rt, E.bk, E.ct, E.mb, E.oa⟩ q
noncomputable def dBreak : TDS := fun D ρ => D.bk ρ
noncomputable def dCont : TDS := fun D ρ => D.ct ρ
noncomputable def dDrop (de : TDE) : TDS := fun D ρ => de ρ fun _ ρ1 => D.nx ρ1
theorem ad_drop {t : TE} {de : TDE} (h : AdE K t de) : AdS K (tDrop t) (dDrop de) := fun c O ρ σ H D Dd R E q =>
 h c O ρ σ H _ _ R q fun x ρ1 O1 v H1 h1 R1 P1 a1 => E.nx O1 ρ1 σ H1 R1 P1 h1
noncomputable def dRet (de : TDE) : TDS := fun D ρ => de ρ fun x ρ1 => fz ρ1 x fun y ρ2 => D.rt (.d y) ρ2
theorem ad_ret {t : TE} {de : TDE} (h : AdE K t de) : AdS K (tRet t) (dRet de) := fun c O ρ σ H D Dd R E q =>
 h c O ρ σ H _ _ R q fun x ρ1 O1 v H1 h1 R1 P1 a1 => by
  obtain ⟨y, ρ2, O2, h2, R2, P2, a2⟩ := R1.fz a1 h1
  exact E.rt (.d y) O2 ρ2 σ H1 v ⟨R2, a2⟩ h2
noncomputable def dRetF (df : TDF) : TDS := fun D ρ => df ρ fun xs ρ1 => D.rt (.new xs) ρ1
theorem ad_retF {t : TE} {df : TDF} (h : AdF K t df) : AdS K (tRet t) (dRetF df) := fun c O ρ σ H D Dd R E q =>
 h c O ρ σ H _ _ R q fun xs ρ1 O1 p vs H1 h1 R1 P1 f1 hp a1 => E.rt (.new xs) O1 ρ1 σ H1 _ ⟨p, vs, rfl, R1, f1, hp, a1⟩ h1
noncomputable def ownAt (ρ : Rho) (i : Nat) : Option (List PyData) := match ρ[i]?.join with
 | some (.own xs) => some xs
 | _ => none
noncomputable def dRetOwn (i : Nat) : TDS := fun D ρ => need (ownAt ρ i) fun xs => D.rt (.new xs) (ρ.set i none)
noncomputable def dIf (c : TDT) (t u : TDS) : TDS := fun D ρ => c ρ fun b ρ1 => if b = true then t D ρ1 else u D ρ1
theorem ad_if {tc : TT} {t u : TS} {dc : TDT} {dt du : TDS} (hc : AdT K tc dc) (h : AdS K t dt) (h' : AdS K u du) : AdS K (tIfS tc t u) (dIf dc dt du) := fun c O ρ σ H D Dd R E q =>
 hc c O ρ σ H _ _ R q fun b ρ1 O1 H1 h1 R1 P1 => by
  cases b with
  | true => rw [if_pos rfl] at h1 ⊢; exact h c O1 ρ1 σ H1 D Dd R1 (E.later P1) h1
  | false => rw [if_neg Bool.false_ne_true] at h1 ⊢; exact h' c O1 ρ1 σ H1 D Dd R1 (E.later P1) h1
noncomputable def dRetN : TDS := fun D ρ => D.rt (.d .none) ρ
noncomputable def dSet (i : Nat) (de : TDE) : TDS := fun D ρ => de ρ fun x ρ1 => fz ρ1 x fun y ρ2 => i < ρ2.length /\ D.nx (ρ2.set i (some (.d y)))
theorem ad_set {i : Nat} {t : TE} {de : TDE} (h : AdE K t de) : AdS K (tAsg t (qb4x i)) (dSet i de) := fun c O ρ σ H D Dd R E q =>
 h c O ρ σ H _ _ R q fun x ρ1 O1 v H1 h1 R1 P1 a1 => by
  obtain ⟨y, ρ2, O2, ⟨hi, h2⟩, R2, P2, a2⟩ := R1.fz a1 h1
  obtain ⟨R3, P3⟩ := R2.setD hi a2
  exact E.nx _ _ _ H1 R3 ((P1.trans P2).trans P3) h2
noncomputable def dSetF (i : Nat) (df : TDF) : TDS := fun D ρ => df ρ fun xs ρ1 => i < ρ1.length /\ D.nx (ρ1.set i (some (.own xs)))
theorem qd8p {i : Nat} {t : TE} {df : TDF} (h : AdF K t df) : AdS K (tAsg t (qb4x i)) (dSetF i df) := fun c O ρ σ H D Dd R E q =>
 h c O ρ σ H _ _ R q fun xs ρ1 O1 p vs H1 h1 R1 P1 f1 hp a1 => by
  obtain ⟨hi, h2⟩ := h1
  obtain ⟨R3, P3⟩ := R1.setOwn hi f1.1 f1.2.1 f1.2.2.1 f1.2.2.2 (E.oa _ f1.1) hp a1
  exact E.nx _ _ _ H1 R3 (P1.trans P3) h2
noncomputable abbrev TDG := PyData -> Rho -> (Rho -> Prop) -> Prop
noncomputable abbrev TDGs := List PyData -> Rho -> (Rho -> Prop) -> Prop
noncomputable def AdG (K : PySem.W.Frag) (g : TG) (dg : TDG) : Prop := ∀ (c : Rc) (O : Own) (ρ : Rho) (σ : St) (H : Hp) (x : PyData) (v : V) (Qd : Rho -> Prop) (Q : St -> Hp -> Prop), Rel K c O ρ σ H -> AtD K H (live c O) x v -> dg x ρ Qd ->
 (∀ O' ρ' σ' , Rel K c O' ρ' σ' H -> Pers K (live c O) H (live c O') H -> Qd ρ' -> Q σ' H) -> g v σ H Q
noncomputable def AdGs (K : PySem.W.Frag) (g : TGs) (dg : TDGs) : Prop := ∀ (c : Rc) (O : Own) (ρ : Rho) (σ : St) (H : Hp) (x : List PyData) (v : List V) (Qd : Rho -> Prop) (Q : St -> Hp -> Prop), Rel K c O ρ σ H -> qa0e K H (live c O) x v -> dg x ρ Qd ->
 (∀ O' ρ' σ' , Rel K c O' ρ' σ' H -> Pers K (live c O) H (live c O') H -> Qd ρ' -> Q σ' H) -> g v σ H Q
noncomputable def qc8y (i : Nat) : TDG := fun x ρ Q => i < ρ.length /\ Q (ρ.set i (some (.d x)))
theorem ag_name {i : Nat} : AdG K (qb4x i) (qc8y i) := fun c O ρ σ H x v Qd Q R a h k => by
 obtain ⟨R1, P1⟩ := R.setD h.1 a
 exact k _ _ _ R1 P1 h.2
noncomputable def dgNil : TDGs := fun xs ρ Q => xs = [] /\ Q ρ
noncomputable def qc8z (t : TDG) (u : TDGs) : TDGs := fun xs ρ Q => match xs with
 | x :: r => t x ρ fun ρ1 => u r ρ1 Q
 | [] => False
theorem ag_nil : AdGs K gNil dgNil := fun c O ρ σ H x v Qd Q R a h k => by
 obtain ⟨rfl, h⟩ := h
 exact ⟨a.unnil, k _ _ _ R .refl h⟩
theorem ag_cons {t : TG} {u : TGs} {dt : TDG} {du : TDGs} (h : AdG K t dt) (h' : AdGs K u du) : AdGs K (gCons t u) (qc8z dt du) := fun c O ρ σ H x v Qd Q R a q k => by
 cases x with
 | nil => exact (show False from q).elim
 | cons x r =>
  obtain ⟨w, ws, rfl, a1, a2⟩ := a.uncons
  exact ⟨w, ws, rfl, h c O ρ σ H x w _ _ R a1 q fun O1 ρ1 σ1 R1 P1 q1 => h' c O1 ρ1 σ1 H r ws _ _ R1 (P1.all a2) q1 fun O2 ρ2 σ2 R2 P2 q2 => k _ _ _ R2 (P1.trans P2) q2⟩
noncomputable def dgTup (n : Nat) (t : TDGs) : TDG := fun x ρ Q => match x with
 | .tuple xs => xs.length = n /\ t xs ρ Q
 | _ => False
theorem ag_tup {n : Nat} {t : TGs} {dt : TDGs} (h : AdGs K t dt) : AdG K (gTup K n t) (dgTup n dt) := fun c O ρ σ H x v Qd Q R a q k => by
 cases x with
 | tuple xs =>
  obtain ⟨hn, q⟩ := q
  obtain ⟨b, ws, rfl, h1, h2⟩ := qa5z a
  exact ⟨b, ws, rfl, h1, by rw [h2.length]; exact hn, h c O ρ σ H xs ws _ _ R h2 q k⟩
 | _ => exact (show False from q).elim
noncomputable def dAsg (de : TDE) (g : TDG) : TDS := fun D ρ => de ρ fun x ρ1 => fz ρ1 x fun y ρ2 => g y ρ2 D.nx
inductive OK where | o | b
noncomputable def ownB (ρ : Rho) (i : Nat) : Option (OK × List PyData) := match ρ[i]?.join with
 | some (.own xs) => some (.o, xs)
 | some (.bor xs) => some (.b, xs)
 | _ => none
noncomputable def okL : OK -> List PyData -> L
 | .o, xs => .own xs
 | .b, xs => .bor xs
theorem qa7m {i : Nat} {o : OK} {xs : List PyData} (R : Rel K c O ρ σ H) (h : ownB ρ i = some (o, xs)) : ρ[i]? = some (some (okL o xs)) /\ ∃ p vs, O i = some p /\ σ[i]? = some (some (.ref p)) /\ H p = some (.lst vs) /\ qa0e K H (live c O) xs vs := by
 unfold ownB at h
 split at h
 ·rename_i ys e
  cases h
  have e' := qa3g e
  obtain ⟨p, vs, h1, _, h3, h4, h5⟩ := R.own i _ e'
  exact ⟨e', p, vs, h1, h3, h4, h5⟩
 ·rename_i ys e
  cases h
  have e' := qa3g e
  obtain ⟨p, vs, h1, h3, h4, h5⟩ := R.bor i _ e'
  exact ⟨e', p, vs, h1, h3, h4, h5⟩
 ·cases h
theorem Rel.writeB {i : Nat} {o : OK} {p : Addr} {xs ys : List PyData} {vs vs' : List V} (R : Rel K c O ρ σ H) (hO : O i = some p) (hH : H p = some (.lst vs)) (e : ρ[i]? = some (some (okL o xs))) (h : qa0e K H (live c O) ys vs') :
  Rel K c O (ρ.set i (some (okL o ys))) σ (upd H p (.lst vs')) /\ Pers K (live c O) H (live c O) (upd H p (.lst vs')) := by
 cases o with
 | o => exact R.write hO hH (.inl e) (.inl ⟨ys, e, rfl, h⟩)
 | b => exact R.write hO hH (.inr (.inl e)) (.inr (.inl ⟨ys, e, rfl, h⟩))
noncomputable def qc4i (i : Nat) (de : TDE) : TDE := fun ρ Q => need (ownB ρ i) fun _ => de ρ fun x ρ1 => fz ρ1 x fun y ρ2 => need (ownB ρ2 i) fun o => o.2.length <= 1000000 /\ Q (.d .none) (ρ2.set i (some (okL o.1 (o.2 ++ [y]))))
theorem qe3r {i : Nat} {t : TE} {de : TDE} (h : AdE K t de) : AdE K (tBM K "list" qd8g (tVar i) (qa7s t tNil)) (qc4i i de) := by
 intro c O ρ σ H Qd Q R q k
 obtain ⟨⟨o, xs⟩, e, q⟩ := ne q
 obtain ⟨e0, p, vs, hO, hσ, hH, hA⟩ := qa7m R e
 refine ⟨.ref p, hσ, .inl ⟨rfl, vs, SqL.of hH⟩, ?_⟩
 refine h c O ρ σ H _ _ R q fun x ρ1 O1 v H1 h1 R1 P1 a1 => ?_
 obtain ⟨y, ρ2, O2, h2, R2, P2, a2⟩ := R1.fz a1 h1
 obtain ⟨⟨o2, xs2⟩, e2, hz, h2⟩ := ne h2
 obtain ⟨e3, p2, vs2, hO2, hσ2, hH2, hA2⟩ := qa7m R2 e2
 rw [hσ] at hσ2; cases hσ2
 refine ⟨p, vs2, v, rfl, rfl, hH2, by rw [hA2.length]; exact mil hz, ?_⟩
 obtain ⟨R3, P3⟩ := R2.writeB hO2 hH2 e3 (hA2.snoc a2)
 exact k _ _ _ _ _ h2 R3 ((P1.trans P2).trans P3) qc1j
noncomputable def dPop (i : Nat) : TDE := fun ρ Q => need (ownB ρ i) fun o => need o.2.getLast? fun y => Q (.d y) (ρ.set i (some (okL o.1 o.2.dropLast)))
theorem qa0e.dropLast {ds : List PyData} {vs : List V} (h : qa0e K H S ds vs) : qa0e K H S ds.dropLast vs.dropLast := by
 rw [List.dropLast_eq_take, List.dropLast_eq_take, h.length]; exact h.take _
theorem ad_pop {i : Nat} : AdE K (tBM0 K "list" rPop (tVar i)) (dPop i) := by
 intro c O ρ σ H Qd Q R q k
 obtain ⟨⟨o, xs⟩, e, q⟩ := ne q
 obtain ⟨y, ey, q⟩ := ne q
 obtain ⟨e0, p, vs, hO, hσ, hH, hA⟩ := qa7m R e
 have ey' : xs[xs.length - 1]? = some y := by rw [← List.getLast?_eq_getElem?]; exact ey
 obtain ⟨v, ev, av⟩ := hA.get ey'
 refine ⟨.ref p, hσ, .inl ⟨rfl, vs, SqL.of hH⟩, p, vs, v, rfl, rfl, hH, by rw [hA.length]; exact ev, ?_⟩
 obtain ⟨R3, P3⟩ := R.writeB hO hH e0 hA.dropLast
 exact k _ _ _ _ _ q R3 P3 (P3 _ _ av : AtD _ _ _ y v)
noncomputable def qb8j (i : Nat) (di de : TDE) : TDS := fun D ρ => de ρ fun x ρ1 => fz ρ1 x fun y ρ2 => need (ownB ρ2 i) fun _ => di ρ2 fun z ρ3 => need (qa1a ρ3 z) fun dz => need (asI dz) fun n => need (ownB ρ3 i) fun o => need (ixN o.2.length n) fun j => D.nx (ρ3.set i (some (okL o.1 (o.2.set j y))))
 where asI : PyData -> Option Int
  | .int i => some i
  | _ => none
theorem qe5x {i : Nat} {ti te : TE} {di de : TDE} (hi : AdE K ti di) (h : AdE K te de) : AdS K (tAsg te (gSub (tVar i) ti rSetL)) (qb8j i di de) := fun c O ρ σ H D Dd R E q =>
 h c O ρ σ H _ _ R q fun x ρ1 O1 v H1 h1 R1 P1 a1 => by
  obtain ⟨y, ρ2, O2, h2, R2, P2, a2⟩ := R1.fz a1 h1
  obtain ⟨⟨o, xs⟩, e, h2⟩ := ne h2
  obtain ⟨e0, p, vs, hO, hσ, hH, hA⟩ := qa7m R2 e
  refine ⟨.ref p, hσ, ?_⟩
  refine hi c O2 ρ2 σ H1 _ _ R2 h2 fun z ρ3 O3 w H3 h3 R3 P3 a3 => ?_
  obtain ⟨dz, e1, h3⟩ := ne h3
  obtain ⟨n, e2, h3⟩ := ne h3
  obtain ⟨⟨o4, xs4⟩, e4, h3⟩ := ne h3
  obtain ⟨j, e5, h4⟩ := ne h3
  obtain ⟨e6, p4, vs4, hO4, hσ4, hH4, hA4⟩ := qa7m R3 e4
  rw [hσ] at hσ4; cases hσ4
  have a4 := R3.top a3 e1
  cases dz with
  | int n' =>
   cases e2
   refine ⟨p, vs4, n, j, rfl, a4.int, hH4, by rw [hA4.length]; exact e5, ?_⟩
   obtain ⟨R5, P5⟩ := R3.writeB hO4 hH4 e6 (hA4.set j (P3 _ _ a2))
   exact E.nx _ _ _ _ R5 (((P1.trans P2).trans P3).trans P5) h4
  | _ => cases e2
noncomputable def qc9a (c : TDT) (b : TDS) : TDS := fun D ρ => ∃ W : Nat -> Rho -> Prop, (∃ m, W m ρ) /\ ∀ m ρ, W m ρ -> c ρ fun k ρ1 => if k = true then b { D with nx := fun ρ2 => ∃ m', m' < m /\ W m' ρ2, ct := fun ρ2 => ∃ m', m' < m /\ W m' ρ2, bk := D.nx } ρ1 else D.nx ρ1
theorem qe5y {tc : TT} {tb : TS} {dc : TDT} {db : TDS} (hc : AdT K tc dc) (hb : AdS K tb db) : AdS K (tWhile tc tb) (qc9a dc db) := fun c O ρ σ H D Dd R E q => by
 obtain ⟨W, ⟨m0, w0⟩, turn⟩ := q
 refine ⟨fun m σ' H' => ∃ O' ρ', Rel K c O' ρ' σ' H' /\ Pers K (live c O) H (live c O') H' /\ W m ρ', ⟨m0, O, ρ, R, .refl, w0⟩, ?_⟩
 rintro m σ1 H1 ⟨O1, ρ1, R1, P1, w1⟩
 refine hc c O1 ρ1 σ1 H1 _ _ R1 (turn m ρ1 w1) fun b ρ2 O2 H2 h2 R2 P2 => ?_
 have P := P1.trans P2
 cases b with
 | true =>
  rw [if_pos rfl] at h2 ⊢
  refine ⟨fun σ' H' => ∃ O' ρ' m', Rel K c O' ρ' σ' H' /\ Pers K (live c O) H (live c O') H' /\ m' < m /\ W m' ρ', fun σ' H' ⟨O', ρ', m', R', P', hm, w'⟩ => ⟨m', hm, O', ρ', R', P', w'⟩, ?_⟩
  exact hb c O2 ρ2 σ1 H2 _ { Dd with nx := fun ρ2 => ∃ m', m' < m /\ W m' ρ2, ct := fun ρ2 => ∃ m', m' < m /\ W m' ρ2, bk := Dd.nx } R2 ⟨fun O3 ρ3 σ3 H3 R3 P3 ⟨m', hm, w3⟩ => ⟨O3, ρ3, m', R3, P.trans P3, hm, w3⟩, E.rt, fun O3 ρ3 σ3 H3 R3 P3 => E.nx _ _ _ _ R3 (P.trans P3), fun O3 ρ3 σ3 H3 R3 P3 ⟨m', hm, w3⟩ => ⟨O3, ρ3, m', R3, P.trans P3, hm, w3⟩, E.mb, E.oa⟩ h2
 | false =>
  rw [if_neg Bool.false_ne_true] at h2 ⊢
  exact E.nx _ _ _ _ R2 P h2
noncomputable abbrev TDI := Rho -> (List PyData -> Rho -> Prop) -> Prop
noncomputable def qb4n (K : PySem.W.Frag) (S : Addr -> Prop) (H : Hp) (J : It) (xs : List PyData) : Prop := ∀ (S' : Addr -> Prop) (H' : Hp), Pers K S H S' H' ->
 (∀ (i : Nat) (x : PyData), xs[i]? = some x -> J.go i H' /\ ∀ v H'', J.yld i H' v H'' -> Same H' H'' /\ AtD K H'' S' x v) /\ J.stop xs.length H'
noncomputable def AdI (K : PySem.W.Frag) (t : TI) (di : TDI) : Prop := ∀ (c : Rc) (O : Own) (ρ : Rho) (σ : St) (H : Hp) (Qd : List PyData -> Rho -> Prop) (Q : It -> Hp -> Prop), Rel K c O ρ σ H -> di ρ Qd ->
 (∀ xs ρ' O' J H', Qd xs ρ' -> Rel K c O' ρ' σ H' -> Pers K (live c O) H (live c O') H' -> qb4n K (live c O') H' J xs -> Q J H') -> t σ H Q
noncomputable def DI (X : Cx) (tg iter : Expr) (di : TDI) : Prop := ∃ t, PI X tg iter t /\ AdI X.K t di
theorem qe0y {a : Addr} {vs : List V} {xs : List PyData} (h1 : SqT K H a vs) (h2 : qa0e K H S xs vs) : qb4n K S H (Itt K a) xs := fun S' H' P => by
 obtain ⟨b, ws, e, h3, h4⟩ := qa5z (P _ _ (qa6d h1 h2))
 cases e
 refine ⟨fun i x e => ?_, ⟨ws, h3, by rw [h4.length]; exact Nat.le_refl _⟩⟩
 obtain ⟨w, e1, e2⟩ := h4.get e
 refine ⟨⟨ws, w, h3, e1⟩, fun v H'' y => ?_⟩
 obtain ⟨rfl, y⟩ := y
 have e3 := y ws h3
 rw [e1] at e3; cases e3
 exact ⟨Same.refl _, e2⟩
theorem qe0z {a : Addr} {vs : List V} {xs : List PyData} (hS : S a) (h1 : H a = some (.lst vs)) (h2 : qa0e K H S xs vs) : qb4n K S H (Itl K a) xs := fun S' H' P => by
 obtain ⟨b, ws, e, _, h3, h4⟩ := qa6k (P _ _ (qa5l hS h1 h2))
 cases e
 refine ⟨fun i x e => ?_, ⟨ws, SqL.of h3, by rw [h4.length]; exact Nat.le_refl _⟩⟩
 obtain ⟨w, e1, e2⟩ := h4.get e
 refine ⟨⟨ws, w, SqL.of h3, e1⟩, fun v H'' y => ?_⟩
 obtain ⟨rfl, y⟩ := y
 have e3 := y ws (SqL.of h3)
 rw [e1] at e3; cases e3
 exact ⟨Same.refl _, e2⟩
noncomputable def diDat (de : TDE) : TDI := fun ρ Q => de ρ fun x ρ1 => fz ρ1 x fun y ρ2 => need (seqD y) fun xs => Q xs ρ2
theorem ai_dat {t : TE} {de : TDE} (h : AdE K t de) : AdI K (iDat K t) (diDat de) := fun c O ρ σ H Qd Q R q k =>
 h c O ρ σ H _ _ R q fun x ρ1 O1 v H1 h1 R1 P1 a1 => by
  obtain ⟨y, ρ2, O2, h2, R2, P2, a2⟩ := R1.fz a1 h1
  obtain ⟨xs, e, h2⟩ := ne h2
  cases y with
  | list ys =>
   cases e
   obtain ⟨a, vs, rfl, hS, h3, h4⟩ := qa6k a2
   exact .inr ⟨a, rfl, ⟨vs, SqL.of h3⟩, k _ _ _ _ _ h2 R2 (P1.trans P2) (qe0z hS h3 h4)⟩
  | tuple ys =>
   cases e
   obtain ⟨a, vs, rfl, h3, h4⟩ := qa5z a2
   exact .inl ⟨a, rfl, ⟨vs, h3⟩, k _ _ _ _ _ h2 R2 (P1.trans P2) (qe0y h3 h4)⟩
  | _ => cases e
noncomputable def rngD (lo : Int) (n : Nat) : List PyData := (List.range n).map fun i => .int (lo + (i : Nat))
theorem qe1a {lo : Int} {n : Nat} : qb4n K S H (Itr lo n) (rngD lo n) := fun S' H' P => by
 have hl : (rngD lo n).length = n := by simp [rngD]
 refine ⟨fun i x e => ?_, by rw [hl]; exact Nat.le_refl _⟩
 have hi : i < n := by rw [← hl]; exact (List.getElem?_eq_some_iff.mp e).1
 have ex : x = .int (lo + (i : Nat)) := by
  simp only [rngD, List.getElem?_map, List.getElem?_range hi, Option.map_some] at e
  exact (Option.some.inj e).symm
 subst ex
 refine ⟨hi, fun v H'' y => ?_⟩
 obtain ⟨rfl, rfl⟩ := y
 exact ⟨Same.refl _, qa3t _⟩
noncomputable def asI : PyData -> Option Int
 | .int i => some i
 | _ => none
theorem qc9b {d : PyData} {v : V} {i : Int} (h : AtT K H S d v) (e : asI d = some i) : v = .int i := by
 cases d with
 | int i' => cases e; exact h.int
 | _ => cases e
noncomputable def sm62 (i : Int) : Prop := -(2 ^ 62) <= i /\ i < 2 ^ 62
noncomputable def qc9c (de : TDE) : TDI := fun ρ Q => de ρ fun x ρ1 => need (qa1a ρ1 x) fun d => need (asI d) fun j => sm62 j /\ Q (rngD 0 j.toNat) ρ1
theorem ai_rng1 {t : TE} {de : TDE} (h : AdE K t de) : AdI K (iRng1 (qa7s t tNil)) (qc9c de) := fun c O ρ σ H Qd Q R q k =>
 h c O ρ σ H _ _ R q fun x ρ1 O1 v H1 h1 R1 P1 a1 => by
  obtain ⟨d, e1, h1⟩ := ne h1
  obtain ⟨j, e2, hj, h2⟩ := ne h1
  have ev := qc9b (R1.top a1 e1) e2
  exact ⟨j, by rw [ev], hj.1, hj.2, k _ _ _ _ _ h2 R1 P1 qe1a⟩
noncomputable def qa7i (g : TDG) (b : TDS) (D : DEnds) : List PyData -> Rho -> Prop
 | [], ρ => D.nx ρ
 | x :: r, ρ => g x ρ fun ρ1 => b { D with nx := qa7i g b D r, ct := qa7i g b D r, bk := D.nx } ρ1
noncomputable def dFor (di : TDI) (g : TDG) (b : TDS) : TDS := fun D ρ => di ρ fun xs ρ1 => qa7i g b D xs ρ1
theorem ad_for {ti : TI} {tg : TG} {tb : TS} {di : TDI} {dg : TDG} {db : TDS} (hi : AdI K ti di) (hg : AdG K tg dg) (hb : AdS K tb db) : AdS K (tFor ti tg tb) (dFor di dg db) := fun c O ρ σ H D Dd R E q =>
 hi c O ρ σ H _ _ R q fun xs ρ1 O1 J H1 h1 R1 P1 I1 => by
  refine ⟨fun i m σ' H' => m = xs.length - i /\ i <= xs.length /\ ∃ O' ρ', Rel K c O' ρ' σ' H' /\ Pers K (live c O1) H1 (live c O') H' /\ qa7i dg db Dd (xs.drop i) ρ', ⟨xs.length, by simp, Nat.zero_le _, O1, ρ1, R1, .refl, by rw [List.drop_zero]; exact h1⟩, ?_⟩
  rintro i m σ2 H2 ⟨rfl, hle, O2, ρ2, R2, P2, h2⟩
  obtain ⟨it, stop⟩ := I1 _ _ P2
  by_cases hlt : i < xs.length
  ·rw [List.drop_eq_getElem_cons hlt] at h2
   obtain ⟨go, yld⟩ := it i xs[i] (List.getElem?_eq_getElem hlt)
   have h2' : dg xs[i] ρ2 fun ρ1 => db { Dd with nx := qa7i dg db Dd (xs.drop (i + 1)), ct := qa7i dg db Dd (xs.drop (i + 1)), bk := Dd.nx } ρ1 := h2
   refine .inr ⟨go, fun σ' H' => ∃ O' ρ', Rel K c O' ρ' σ' H' /\ Pers K (live c O1) H1 (live c O') H' /\ qa7i dg db Dd (xs.drop (i + 1)) ρ', fun σ' H' ⟨O', ρ', R', P', q'⟩ => ⟨xs.length - (i + 1), by omega, rfl, hlt, O', ρ', R', P', q'⟩, fun v H3 y => ?_⟩
   obtain ⟨s3, a3⟩ := yld v H3 y
   refine hg c O2 ρ2 σ2 H3 xs[i] v _ _ (R2.grow s3) a3 h2' fun O4 ρ4 σ4 R4 P4 h4 => ?_
   have P5 : Pers K (live c O1) H1 (live c O4) H3 := (P2.trans (.same s3)).trans P4
   exact hb c O4 ρ4 σ4 H3 _ { Dd with nx := qa7i dg db Dd (xs.drop (i + 1)), ct := qa7i dg db Dd (xs.drop (i + 1)), bk := Dd.nx } R4 ⟨fun O6 ρ6 σ6 H6 R6 P6 q6 => ⟨O6, ρ6, R6, P5.trans P6, q6⟩, E.rt, fun O6 ρ6 σ6 H6 R6 P6 => E.nx _ _ _ _ R6 ((P1.trans P5).trans P6), fun O6 ρ6 σ6 H6 R6 P6 q6 => ⟨O6, ρ6, R6, P5.trans P6, q6⟩, E.mb, E.oa⟩ h4
  ·have e : i = xs.length := by omega
   subst e
   rw [List.drop_eq_nil_of_le (Nat.le_refl _)] at h2
   exact .inl ⟨stop, E.nx _ _ _ _ R2 (P1.trans P2) h2⟩
end
end L2
end
section
namespace L2
open PySem PySem.Spec PyProof.Rows
noncomputable def qa7x : L -> L -> Option L
 | .own _, .bor xs => some (.own xs)
 | .bor _, .bor xs => some (.bor xs)
 | .tape _, .tape k => some (.tape k)
 | _, _ => none
noncomputable def lend : L -> L
 | .own xs => .bor xs
 | l => l
noncomputable def isOw : L -> Bool
 | .own _ => true
 | .bor _ => true
 | .tape _ => true
 | _ => false
noncomputable abbrev Lent := Nat -> Option Nat
section
variable {K : PySem.W.Frag} {c : Rc} {O : Own} {ρ : Rho} {σ : St} {H H' : Hp} {S S' : Addr -> Prop}
theorem Rel.ow {i : Nat} {l : L} (R : Rel K c O ρ σ H) (h : ρ[i]? = some (some l)) (ho : isOw l = true) : ∃ p, O i = some p /\ σ[i]? = some (some (.ref p)) := by
 cases l with
 | own xs => obtain ⟨p, vs, h1, _, h3, _⟩ := R.own i xs h; exact ⟨p, h1, h3⟩
 | bor xs => obtain ⟨p, vs, h1, h3, _⟩ := R.bor i xs h; exact ⟨p, h1, h3⟩
 | tape k => obtain ⟨p, h1, h3, _⟩ := R.tap i k h; exact ⟨p, h1, h3⟩
 | _ => cases ho
noncomputable def Holds (K : PySem.W.Frag) (c : Rc) (S : Addr -> Prop) (H : Hp) (p : Addr) : L -> Prop
 | .own xs => ∃ vs, H p = some (.lst vs) /\ qa0e K H S xs vs
 | .bor xs => ∃ vs, H p = some (.lst vs) /\ qa0e K H S xs vs
 | .tape k => H p = some (.lst [.ref c.sa, .int k])
 | _ => False
theorem Rel.holds {i : Nat} {l : L} (R : Rel K c O ρ σ H) (h : ρ[i]? = some (some l)) (ho : isOw l = true) : ∃ p, O i = some p /\ σ[i]? = some (some (.ref p)) /\ Holds K c (live c O) H p l /\ (∀ xs, l = .own xs -> qb0z c p) := by
 cases l with
 | own xs => obtain ⟨p, vs, h1, h2, h3, h4, h5⟩ := R.own i xs h; exact ⟨p, h1, h3, ⟨vs, h4, h5⟩, fun _ _ => h2⟩
 | bor xs => obtain ⟨p, vs, h1, h3, h4, h5⟩ := R.bor i xs h; exact ⟨p, h1, h3, ⟨vs, h4, h5⟩, fun _ z => nomatch z⟩
 | tape k => obtain ⟨p, h1, h3, h4⟩ := R.tap i k h; exact ⟨p, h1, h3, h4, fun _ z => nomatch z⟩
 | _ => cases ho
mutual
theorem AtD.inH (hs : ∀ a, S a -> H a ≠ none -> S' a) : ∀ (d : PyData) (v : V), AtD K H S d v -> AtD K H S' d v
 | .none, _, h => by unfold AtD at h ⊢; exact h
 | .bool _, _, h => by unfold AtD at h ⊢; exact h
 | .int _, _, h => by unfold AtD at h ⊢; exact h
 | .str _, _, h => by unfold AtD at h ⊢; exact h
 | .list ds, v, h => by
  obtain ⟨a, xs, e1, s, q, r⟩ := qa6k h
  subst e1
  exact qa5l (hs a s (by rw [q]; exact fun z => nomatch z)) q (qa0e.inH hs ds xs r)
 | .tuple ds, v, h => by
  obtain ⟨a, xs, e1, q, r⟩ := qa5z h
  subst e1
  exact qa6d q (qa0e.inH hs ds xs r)
 | .dict kvs, v, h => by
  obtain ⟨a, ν, e1, s, q, e2⟩ := qb1h h
  subst e1 e2
  exact qa9x (hs a s (by rw [q]; exact fun z => nomatch z)) q
theorem qa0e.inH (hs : ∀ a, S a -> H a ≠ none -> S' a) : ∀ (ds : List PyData) (vs : List V), qa0e K H S ds vs -> qa0e K H S' ds vs
 | [], _, h => by rw [h.unnil]; exact .nil
 | d :: ds, vs, h => by
  obtain ⟨v, r, rfl, h1, h2⟩ := h.uncons
  exact .cons (AtD.inH hs d v h1) (qa0e.inH hs ds r h2)
end
noncomputable def qa1t (O : Own) (ρ : Rho) (f : Lent) : Own := fun j => (f j).bind fun i => match ρ[i]?.join with
 | some l => if isOw l then O i else none
 | none => none
noncomputable def Rc.in (c : Rc) (O Oc : Own) (P : Addr -> Prop) (b : Bool) (H : Hp) : Rc := { A := fun p => (∃ j, Oc j = some p) ∨ (b = true /\ H p = none), H0 := H, S := live c O, P := P, M := fun p => ∃ j, Oc j = some p, B := fun p => ∃ j, Oc j = some p, lent := Oc, sa := c.sa, ns := c.ns }
theorem qa3c {f : Lent} {j : Nat} {p : Addr} (h : qa1t O ρ f j = some p) : ∃ i l, f j = some i /\ ρ[i]? = some (some l) /\ isOw l = true /\ O i = some p := by
 unfold qa1t at h
 cases e : f j with
 | none => rw [e] at h; cases h
 | some i =>
  rw [e] at h
  have h' : (match ρ[i]?.join with | some l => if isOw l then O i else none | none => none) = some p := h
  split at h'
  ·rename_i l el
   split at h'
   ·rename_i ho
    exact ⟨i, l, rfl, qa3g el, ho, h'⟩
   ·cases h'
  ·cases h'
theorem qc1k {f : Lent} {j i : Nat} {l : L} (e : f j = some i) (h : ρ[i]? = some (some l)) (ho : isOw l = true) : qa1t O ρ f j = O i := by
 unfold qa1t
 rw [e]
 show (match ρ[i]?.join with | some l => if isOw l then O i else none | none => none) = O i
 rw [h]
 show (if isOw l then O i else none) = O i
 rw [if_pos ho]
structure Begins (K : PySem.W.Frag) (c : Rc) (O : Own) (ρ : Rho) (σ : St) (H : Hp) (f : Lent) (ρi : Rho) (σi : St) : Prop where
 io : ∀ (j : Nat) (l : L), ρi[j]? = some (some l) -> isOw l = true -> ∃ i l0, f j = some i /\ ρ[i]? = some (some l0) /\ isOw l0 = true /\ l = lend l0 /\ σi[j]? = σ[i]?
 dat : ∀ (j : Nat) (x : PyData), ρi[j]? = some (some (.d x)) -> ∃ v, σi[j]? = some (some v) /\ AtD K H (live c O) x v
 scr : ∀ j : Nat, ρi[j]? = some (some .scr) -> σi[j]? = some (some (.ref c.sa))
 inj : ∀ j k i, f j = some i -> f k = some i -> j = k
 len : σi.length = ρi.length
theorem Rel.begin {b : Bool} {f : Lent} {ρi : Rho} {σi : St} {P : Addr -> Prop} {H' : Hp} (R : Rel K c O ρ σ H) (B : Begins K c O ρ σ H f ρi σi) (hs : Same H H') (hP : ∀ p, P p -> H p = none /\ H' p ≠ none) :
  Rel K (c.in O (qa1t O ρ f) P b H') (qa1t O ρ f) ρi σi H' /\ Pers K (live c O) H (live (c.in O (qa1t O ρ f) P b H') (qa1t O ρ f)) H' := by
 have hl : ∀ a, live c O a -> H a ≠ none -> live (c.in O (qa1t O ρ f) P b H') (qa1t O ρ f) a := fun a h n => ⟨h, fun z => n (hP a z).1, fun j e => by
  obtain ⟨i, l, _, _, _, e2⟩ := qa3c e
  exact h.2.2 i e2⟩
 have P1 : Pers K (live c O) H (live (c.in O (qa1t O ρ f) P b H') (qa1t O ρ f)) H' := fun d v h =>
  AtD.mono hs.keep _ _ (AtD.inH hl d v h)
 refine ⟨⟨fun j x e => ?_, fun j xs e => ?_, fun j xs e => ?_, fun j k e => ?_, fun j e => B.scr j e, fun j k p e1 e2 => ?_, fun j p e => ?_, fun p hp => hp.elim .inl fun z => .inr z.2, fun p hp => ?_, fun b o _ q => q, fun b n => n, fun p h => ?_, fun p h => ?_, fun j p e l h1 h2 => e, ?_, B.len⟩, P1⟩
 ·obtain ⟨v, h1, h2⟩ := B.dat j x e
  exact ⟨v, h1, P1 _ _ h2⟩
 ·obtain ⟨i, l0, _, h2, h3, h4, _⟩ := B.io j _ e rfl
  cases l0 <;> cases h4
 ·obtain ⟨i, l0, h1, h2, h3, h4, h5⟩ := B.io j _ e rfl
  obtain ⟨p, e1, e2, e3, _⟩ := R.holds h2 h3
  have eO : qa1t O ρ f j = some p := (qc1k h1 h2 h3).trans e1
  cases l0 with
  | own ys => cases h4; obtain ⟨vs, e4, e5⟩ := e3; exact ⟨p, vs, eO, by rw [h5]; exact e2, hs _ _ e4, P1.all e5⟩
  | bor ys => cases h4; obtain ⟨vs, e4, e5⟩ := e3; exact ⟨p, vs, eO, by rw [h5]; exact e2, hs _ _ e4, P1.all e5⟩
  | _ => cases h4
 ·obtain ⟨i, l0, h1, h2, h3, h4, h5⟩ := B.io j _ e rfl
  obtain ⟨p, e1, e2, e3, _⟩ := R.holds h2 h3
  have eO : qa1t O ρ f j = some p := (qc1k h1 h2 h3).trans e1
  cases l0 with
  | tape k0 => cases h4; exact ⟨p, eO, by rw [h5]; exact e2, hs _ _ e3⟩
  | _ => cases h4
 ·obtain ⟨i1, _, f1, _, _, o1⟩ := qa3c e1
  obtain ⟨i2, _, f2, _, _, o2⟩ := qa3c e2
  have := R.inj i1 i2 p o1 o2
  subst this
  exact B.inj j k i1 f1 f2
 ·obtain ⟨i1, _, f1, _, _, o1⟩ := qa3c e
  obtain ⟨_, vs, h⟩ := R.has i1 p o1
  exact ⟨.inl ⟨j, e⟩, vs, hs _ _ h⟩
 ·have hp' : H p = none := hs.free hp
  exact R.liveNew hp'
 ·obtain ⟨j, e⟩ := h
  obtain ⟨i1, _, f1, _, _, o1⟩ := qa3c e
  obtain ⟨_, vs, h⟩ := R.has i1 p o1
  exact ⟨vs, hs _ _ h⟩
 ·rcases h with h | ⟨j, e⟩
  ·exact (hP p h).2
  ·obtain ⟨i1, _, f1, _, _, o1⟩ := qa3c e
   obtain ⟨_, vs, h⟩ := R.has i1 p o1
   rw [hs _ _ h]; exact fun z => nomatch z
 ·exact R.sc.keep (S := Any) hs.keep
end
end L2
end
section
namespace L2
open PySem PySem.Spec PyProof.Rows
noncomputable def qa7y (ρi : Rho) (l0 : L) (j : Nat) : Option L := (ρi[j]?.join).bind (qa7x l0)
noncomputable def qa6u (ρi : Rho) (j i : Nat) (ρ : Rho) : Rho := match ρ[i]?.join with
 | some l0 => if isOw l0 then ρ.set i (qa7y ρi l0 j) else ρ
 | none => ρ
noncomputable def fills (ρi : Rho) : List (Nat × Nat) -> Rho -> Rho
 | [], ρ => ρ
 | (j, i) :: r, ρ => fills ρi r (qa6u ρi j i ρ)
theorem qc9d {ρi ρ : Rho} {j i k : Nat} (h : k ≠ i) : (qa6u ρi j i ρ)[k]? = ρ[k]? := by
 unfold qa6u
 split
 ·split
  ·exact List.getElem?_set_ne (Ne.symm h)
  ·rfl
 ·rfl
theorem qe5z {ρi ρ : Rho} {j i : Nat} {l0 : L} (h : ρ[i]? = some (some l0)) (ho : isOw l0 = true) : (qa6u ρi j i ρ)[i]? = some (qa7y ρi l0 j) := by
 have hi : i < ρ.length := (List.getElem?_eq_some_iff.mp h).1
 unfold qa6u
 rw [h]
 show (if isOw l0 then ρ.set i (qa7y ρi l0 j) else ρ)[i]? = _
 rw [if_pos ho, List.getElem?_set_self hi]
theorem qe6a {ρi ρ : Rho} {j i : Nat} (h : ∀ l0, ρ[i]? = some (some l0) -> isOw l0 = false) : qa6u ρi j i ρ = ρ := by
 unfold qa6u
 split
 ·rename_i l0 e
  rw [h l0 (qa3g e)]
  rfl
 ·rfl
theorem qe3s {ρi ρ : Rho} {j i : Nat} : (qa6u ρi j i ρ).length = ρ.length := by
 unfold qa6u
 split
 ·split
  ·rw [List.length_set]
  ·rfl
 ·rfl
theorem qc6n {ρi : Rho} : ∀ {fl : List (Nat × Nat)} {ρ : Rho}, (fills ρi fl ρ).length = ρ.length
 | [], _ => rfl
 | (j, i) :: r, ρ => by unfold fills; rw [qc6n, qe3s]
theorem qa9r {ρi : Rho} : ∀ {fl : List (Nat × Nat)} {ρ : Rho} {k : Nat}, (∀ j, (j, k) ∈ fl -> ∀ l0, ρ[k]? = some (some l0) -> isOw l0 = false) -> (fills ρi fl ρ)[k]? = ρ[k]?
 | [], _, _, _ => rfl
 | (j, i) :: r, ρ, k, h => by
  unfold fills
  by_cases hk : k = i
  ·subst hk
   have e := qe6a (ρi := ρi) (j := j) (h j List.mem_cons_self)
   rw [e]
   exact qa9r fun j' m => h j' (List.mem_cons_of_mem _ m)
  ·have e := qc9d (ρi := ρi) (ρ := ρ) (j := j) hk
   rw [qa9r (ρ := qa6u ρi j i ρ) (fun j' m l0 q => h j' (List.mem_cons_of_mem _ m) l0 (by rw [← e]; exact q)), e]
theorem qc9e {ρi : Rho} : ∀ {fl : List (Nat × Nat)} {ρ : Rho} {j i : Nat} {l0 : L}, (fl.map (·.2)).Nodup -> (j, i) ∈ fl -> ρ[i]? = some (some l0) -> isOw l0 = true -> (fills ρi fl ρ)[i]? = some (qa7y ρi l0 j)
 | (j', i') :: r, ρ, j, i, l0, nd, m, h, ho => by
  rw [List.map_cons, List.nodup_cons] at nd
  unfold fills
  rcases List.mem_cons.mp m with e | m2
  ·cases e
   rw [qa9r fun j2 m2 => absurd (List.mem_map.mpr ⟨(j2, _), m2, rfl⟩) nd.1]
   exact qe5z h ho
  ·have ne : i ≠ i' := by
    rintro rfl
    exact nd.1 (List.mem_map.mpr ⟨(j, _), m2, rfl⟩)
   exact qc9e nd.2 m2 (by rw [qc9d ne]; exact h) ho
section
variable {K : PySem.W.Frag} {c : Rc} {O : Own} {ρ : Rho} {σ : St} {H H' : Hp} {S S' : Addr -> Prop}
theorem qc9f {l : L} (h : isIO l = true) : isOw l = true := by cases l <;> first | rfl | cases h
theorem Rel.finish {P' : Addr -> Prop} {fl : List (Nat × Nat)} {f : Lent} {ρi : Rho} {Oi : Own} {ci : Rc} {σi : St} (R : Rel K c O ρ σ H) (nd : (fl.map (·.2)).Nodup) (hf : ∀ j i, (j, i) ∈ fl -> f j = some i) (hf' : ∀ j i, f j = some i -> (j, i) ∈ fl)
  (Ri : Rel K ci Oi ρi σi H') (hln : ∀ j, ci.lent j = qa1t O ρ f j) (hsa : ci.sa = c.sa) (hns : ci.ns = c.ns)
  (fr : ∀ b o, (∀ j, qa1t O ρ f j ≠ some b) -> H b = some o -> H' b = some o) (hk : ∀ j p, qa1t O ρ f j = some p -> ∃ vs, H' p = some (.lst vs))
  (hP : Pers K (live ci Oi) H' (live { c with P := P' } O) H') (hp : Pers K (live c O) H (live { c with P := P' } O) H')
  (hP' : ∀ p, P' p -> c.P p ∨ (H' p ≠ none /\ ∀ i, O i ≠ some p)) : Rel K { c with P := P' } O (fills ρi fl ρ) σ H' := by
 -- a slot is lent, or it is as it was
 have cases_ : ∀ i : Nat, (∃ j l0, (j, i) ∈ fl /\ ρ[i]? = some (some l0) /\ isOw l0 = true /\ (fills ρi fl ρ)[i]? = some (qa7y ρi l0 j)) ∨ ((fills ρi fl ρ)[i]? = ρ[i]? /\ ∀ p, O i = some p -> (∃ l, ρ[i]? = some (some l) /\ isOw l = true) -> ∀ j, qa1t O ρ f j ≠ some p) := fun i => by
  by_cases h : ∃ j l0, (j, i) ∈ fl /\ ρ[i]? = some (some l0) /\ isOw l0 = true
  ·obtain ⟨j, l0, h1, h2, h3⟩ := h
   exact .inl ⟨j, l0, h1, h2, h3, qc9e nd h1 h2 h3⟩
  ·refine .inr ⟨qa9r fun j m l0 q => ?_, fun p hO ⟨l, e1, e2⟩ j z => ?_⟩
   ·cases q2 : isOw l0 with
    | false => rfl
    | true => exact absurd ⟨j, l0, m, q, q2⟩ h
   ·obtain ⟨i2, l2, g1, g2, g3, g4⟩ := qa3c z
    have := R.inj i2 i p g4 hO
    subst this
    exact h ⟨j, l2, hf' j _ g1, g2, g3⟩
 -- what a lent slot has now
 have lent_ : ∀ {i j : Nat} {l0 l : L}, (j, i) ∈ fl -> ρ[i]? = some (some l0) -> isOw l0 = true -> qa7y ρi l0 j = some l -> ∃ p l', O i = some p /\ σ[i]? = some (some (.ref p)) /\ isIO l' = true /\ qa7x l0 l' = some l /\ Holds K c (live { c with P := P' } O) H' p l' /\ (∀ xs, l0 = .own xs -> qb0z c p) := fun {i j l0 l} m h2 h3 e => by
  obtain ⟨p, e1, e2, e3, e4⟩ := R.holds h2 h3
  unfold qa7y at e
  cases el : ρi[j]?.join with
  | none => rw [el] at e; cases e
  | some l' =>
   rw [el] at e
   have e' : qa7x l0 l' = some l := e
   have hio : isIO l' = true := by cases l0 <;> cases l' <;> first | rfl | cases e'
   have el' := qa3g el
   have elent : ci.lent j = some p := (hln j).trans ((qc1k (hf j i m) h2 h3).trans e1)
   have eO := Ri.lnt j p elent l' el' hio
   obtain ⟨p', g1, _, g3, _⟩ := Ri.holds el' (qc9f hio)
   rw [eO] at g1; cases g1
   refine ⟨p, l', e1, e2, hio, e', ?_, e4⟩
   cases l' with
   | bor xs => obtain ⟨vs, q1, q2⟩ := g3; exact ⟨vs, q1, hP.all q2⟩
   | tape k => show H' p = _; rw [← hsa]; exact g3
   | _ => cases hio
 have ok' : ∀ i p, O i = some p -> qb0z c p -> qb0z { c with P := P' } p := fun i p e h => ⟨h.1, h.2.1, fun z => (hP' p z).elim h.2.2 fun w => w.2 i e⟩
 have stay : ∀ i p o, O i = some p -> (∃ l, ρ[i]? = some (some l) /\ isOw l = true) -> (∀ p, O i = some p -> (∃ l, ρ[i]? = some (some l) /\ isOw l = true) -> ∀ j, qa1t O ρ f j ≠ some p) -> H p = some o -> H' p = some o := fun i p o e l n q => fr p o (n p e l) q
 refine ⟨fun i x e => ?_, fun i xs e => ?_, fun i xs e => ?_, fun i k e => ?_, fun i e => ?_, R.inj, fun i p e => ⟨(R.has' i p e).1, ?_⟩, R.am, R.frs, fun b o n q => ?_, fun b n => ?_, fun p h => ?_, fun p h => ?_, fun i p e l h1 h2 => ?_, ?_, ?_⟩
 ·rcases cases_ i with ⟨j, l0, m, h2, h3, h4⟩ | ⟨h1, _⟩
  ·rw [h4] at e
   obtain ⟨p, l', _, _, hio, hl, _⟩ := lent_ m h2 h3 (Option.some.inj e)
   cases l' <;> first | (cases hio; done) | (cases l0 <;> cases hl)
  ·rw [h1] at e
   obtain ⟨v, e1, e2⟩ := R.dat i x e
   exact ⟨v, e1, hp _ _ e2⟩
 ·rcases cases_ i with ⟨j, l0, m, h2, h3, h4⟩ | ⟨h1, h2⟩
  ·rw [h4] at e
   obtain ⟨p, l', g1, g2, hio, hl, g3, g4⟩ := lent_ m h2 h3 (Option.some.inj e)
   cases l' with
   | bor ys =>
    cases l0 with
    | own zs => cases hl; obtain ⟨vs, q1, q2⟩ := g3; exact ⟨p, vs, g1, ok' i p g1 (g4 _ rfl), g2, q1, q2⟩
    | _ => cases hl
   | tape k => cases l0 <;> cases hl
   | _ => cases hio
  ·rw [h1] at e
   obtain ⟨p, vs, g1, g2, g3, g4, g5⟩ := R.own i xs e
   exact ⟨p, vs, g1, ok' i p g1 g2, g3, stay i p _ g1 ⟨_, e, rfl⟩ h2 g4, hp.all g5⟩
 ·rcases cases_ i with ⟨j, l0, m, h2, h3, h4⟩ | ⟨h1, h2⟩
  ·rw [h4] at e
   obtain ⟨p, l', g1, g2, hio, hl, g3, g4⟩ := lent_ m h2 h3 (Option.some.inj e)
   cases l' with
   | bor ys =>
    cases l0 <;> cases hl <;> (obtain ⟨vs, q1, q2⟩ := g3; exact ⟨p, vs, g1, g2, q1, q2⟩)
   | tape k => cases l0 <;> cases hl
   | _ => cases hio
  ·rw [h1] at e
   obtain ⟨p, vs, g1, g3, g4, g5⟩ := R.bor i xs e
   exact ⟨p, vs, g1, g3, stay i p _ g1 ⟨_, e, rfl⟩ h2 g4, hp.all g5⟩
 ·rcases cases_ i with ⟨j, l0, m, h2, h3, h4⟩ | ⟨h1, h2⟩
  ·rw [h4] at e
   obtain ⟨p, l', g1, g2, hio, hl, g3, g4⟩ := lent_ m h2 h3 (Option.some.inj e)
   cases l' with
   | bor ys => cases l0 <;> cases hl
   | tape k2 => cases l0 <;> cases hl <;> exact ⟨p, g1, g2, g3⟩
   | _ => cases hio
  ·rw [h1] at e
   obtain ⟨p, g1, g3, g4⟩ := R.tap i k e
   exact ⟨p, g1, g3, stay i p _ g1 ⟨_, e, rfl⟩ h2 g4⟩
 ·rcases cases_ i with ⟨j, l0, m, h2, h3, h4⟩ | ⟨h1, h2⟩
  ·rw [h4] at e
   obtain ⟨p, l', g1, g2, hio, hl, g3, g4⟩ := lent_ m h2 h3 (Option.some.inj e)
   cases l' <;> first | (cases hio; done) | (cases l0 <;> cases hl)
  ·rw [h1] at e; exact R.scr i e
 ·obtain ⟨_, vs, q⟩ := R.has i p e
  by_cases hlt : ∃ j, qa1t O ρ f j = some p
  ·obtain ⟨j, hj⟩ := hlt; exact hk j p hj
  ·exact ⟨vs, fr p _ (fun j z => hlt ⟨j, z⟩) q⟩
 ·refine fr b o (fun j z => ?_) (R.same b o n q)
  obtain ⟨i, l, _, _, _, hO⟩ := qa3c z
  rcases (R.has i b hO).1 with w | w
  ·exact n w
  ·rw [w] at q; cases q
 ·have n' := R.kept b n
  by_cases hlt : ∃ j, qa1t O ρ f j = some b
  ·obtain ⟨j, hj⟩ := hlt
   obtain ⟨vs, q⟩ := hk j b hj
   rw [q]; exact fun z => nomatch z
  ·cases q : H b with
   | none => exact absurd q n'
   | some o => rw [fr b o (fun j z => hlt ⟨j, z⟩) q]; exact fun z => nomatch z
 ·obtain ⟨vs, q⟩ := R.ml p h
  by_cases hlt : ∃ j, qa1t O ρ f j = some p
  ·obtain ⟨j, hj⟩ := hlt; exact hk j p hj
  ·exact ⟨vs, fr p _ (fun j z => hlt ⟨j, z⟩) q⟩
 ·have fin : ∀ q, (c.P q ∨ c.B q) -> H' q ≠ none := fun q hq => by
   have n' := R.pin q hq
   by_cases hlt : ∃ j, qa1t O ρ f j = some q
   ·obtain ⟨j, hj⟩ := hlt
    obtain ⟨vs, q⟩ := hk j q hj
    rw [q]; exact fun z => nomatch z
   ·cases q2 : H q with
    | none => exact absurd q2 n'
    | some o => rw [fr q o (fun j z => hlt ⟨j, z⟩) q2]; exact fun z => nomatch z
  rcases h with h | h
  ·rcases hP' p h with w | w
   ·exact fin p (.inl w)
   ·exact w.1
  ·exact fin p (.inr h)
 ·rcases cases_ i with ⟨j, l0, m, h3, h4, h5⟩ | ⟨h3, h4⟩
  ·rw [h5] at h1
   obtain ⟨p', l', g1, g2, hio, hl, g3, g4⟩ := lent_ m h3 h4 (Option.some.inj h1)
   cases l0 with
   | own zs => cases l' <;> cases hl; cases h2
   | bor zs => exact R.lnt i p e _ h3 rfl
   | tape k => exact R.lnt i p e _ h3 rfl
   | _ => cases h4
  ·rw [h3] at h1; exact R.lnt i p e l h1 h2
 ·have := Ri.sc
  rw [hsa, hns] at this
  exact this
 ·rw [qc6n]; exact R.len
end
end L2
end
section
namespace L2
open PySem PySem.Spec PyProof.Rows
noncomputable abbrev DSp := List L -> (RV -> Rho -> Prop) -> Prop
noncomputable def mask : List L -> Rho -> Rho
 | [], _ => []
 | l :: ls, ρ => (if isIO l then ρ.head?.join else none) :: mask ls ρ.tail
noncomputable def qb8k (N : List Str) (ls : List L) : Rho := ls.map some ++ List.replicate (N.length - ls.length) none
noncomputable def spD (K : PySem.W.Frag) (ds : DSp) : Sp := fun vs H Q _ => ∃ (c : Rc) (O : Own) (ls : List L) (Qd : RV -> Rho -> Prop), c.H0 = H /\ (∀ p, ¬ c.P p) /\ (∀ p, c.M p -> c.B p) /\ (∀ p, c.H0 p = none -> c.A p) /\ (∀ i, c.lent i = O i) /\ Rel K c O (ls.map some) (vs.map some) H /\ ds ls Qd /\
 ∀ r O' ρ' σ' v H', Qd r (mask ls ρ') -> RetOk K c O' ρ' σ' H' r v -> Q v H'
section
variable {K : PySem.W.Frag} {c : Rc} {O : Own} {ρ : Rho} {σ : St} {H H' : Hp} {S S' : Addr -> Prop}
theorem Rel.more {n : Nat} (R : Rel K c O ρ σ H) : Rel K c O (ρ ++ List.replicate n none) (σ ++ List.replicate n none) H := by
 have at_ : ∀ {i : Nat} {l : L}, (ρ ++ List.replicate n none)[i]? = some (some l) -> ρ[i]? = some (some l) := fun {i l} e => by
  by_cases hi : i < ρ.length
  ·rwa [List.getElem?_append_left hi] at e
  ·rw [List.getElem?_append_right (by omega), List.getElem?_replicate] at e
   split at e <;> cases e
 have st : ∀ {i : Nat} {v : V}, σ[i]? = some (some v) -> (σ ++ List.replicate n none)[i]? = some (some v) := fun {i v} e => by
  rw [List.getElem?_append_left (List.getElem?_eq_some_iff.mp e).1]; exact e
 refine ⟨fun i x e => ?_, fun i xs e => ?_, fun i xs e => ?_, fun i k e => ?_, fun i e => st (R.scr i (at_ e)), R.inj, R.has', R.am, R.frs, R.same, R.kept, R.ml, R.pin, fun i p e l h1 h2 => R.lnt i p e l (at_ h1) h2, R.sc, ?_⟩
 ·obtain ⟨v, h1, h2⟩ := R.dat i x (at_ e); exact ⟨v, st h1, h2⟩
 ·obtain ⟨p, vs, h1, h2, h3, h4⟩ := R.own i xs (at_ e); exact ⟨p, vs, h1, h2, st h3, h4⟩
 ·obtain ⟨p, vs, h1, h3, h4⟩ := R.bor i xs (at_ e); exact ⟨p, vs, h1, st h3, h4⟩
 ·obtain ⟨p, h1, h3, h4⟩ := R.tap i k (at_ e); exact ⟨p, h1, st h3, h4⟩
 ·rw [List.length_append, List.length_append, R.len, List.length_replicate, List.length_replicate]
end
section
variable {P : Program} {w : World} {K : PySem.W.Frag} {mg : Str -> Option Value} {base : Heap}
theorem Fun.dok {x qual : Str} {st : Stmt} {f : Addr} {fd : FuncData} {N ps : List Str} {k : Nat} {ds : DSp} (F : Fun K x qual st f fd) (S : FnScope N ps (qa0h st))
  (hbody : ∀ (cdv : Value) (A : Around) (outer : List Env) (s : Shared) (H : Hp) (E : XK), Room k (A.deeper (envOfC qual (qa0h st) s.heap.objs.size f cdv)) ->
   ∀ (ls : List L) (Qd : RV -> Rho -> Prop), ds ls Qd -> ls.length = ps.length /\ ∃ dt, DSs (cxOf CX0 P w K mg base N qual (qa0h st) f cdv A outer s H E).nox (qa0x st) dt /\ dt { nx := fun ρ => Qd (.d .none) (mask ls ρ), rt := fun r ρ => Qd r (mask ls ρ) } (qb8k N ls)) (len : ∀ ls Qd, ds ls Qd -> ls.length = ps.length) : FnOk P w K mg base CX0 (k + 1) f fd ps (spD K ds) := by
 refine F.ok S (fun vs H Q E h => ?_) (fun cdv A outer s H vs Q E hr h => ?_)
 ·obtain ⟨c, O, ls, Qd, _, _, _, _, _, R, h1, _⟩ := h
  have := R.len
  rw [List.length_map, List.length_map] at this
  rw [this]; exact len ls Qd h1
 ·obtain ⟨c, O, ls, Qd, h0, hP, hM, hA, hL, R, h1, fin⟩ := h
  obtain ⟨hl, dt, ⟨t, p, a⟩, q⟩ := hbody cdv A outer s H E hr ls Qd h1
  have hlv : vs.length = ls.length := by have := R.len; rwa [List.length_map, List.length_map] at this
  refine ⟨t, p, a c O (qb8k N ls) (start N vs) H _ { nx := fun ρ => Qd (.d .none) (mask ls ρ), rt := fun r ρ => Qd r (mask ls ρ) } ?_ ⟨fun O1 ρ1 σ1 H1 R1 _ q1 => ?_, fun r O1 ρ1 σ1 H1 v h q1 => ?_, fun _ _ _ _ _ _ z => (show False from z).elim, fun _ _ _ _ _ _ z => (show False from z).elim, hM, hA⟩ q⟩
  ·unfold qb8k start
   rw [hlv]
   exact R.more
  ·exact fin (.d .none) O1 ρ1 σ1 .non H1 q1 ⟨R1, qb1t⟩
  ·exact fin r O1 ρ1 σ1 v H1 q1 h
end
noncomputable def fzL (ρ : Rho) (x : DV) (Q : L -> Rho -> Prop) : Prop := match x with
 | .d y => Q (.d y) ρ
 | .sl i => match ρ[i]?.join with
  | some (.d y) => Q (.d y) ρ
  | some (.own xs) => Q (.d (.list xs)) (ρ.set i (some (.d (.list xs))))
  | some .scr => Q .scr ρ
  | _ => False
noncomputable def ioAt (ρ : Rho) (i : Nat) : Option L := match ρ[i]?.join with
 | some l => if isOw l then some (lend l) else none
 | none => none
noncomputable def pass : List Bool -> List DV -> Rho -> (List L -> Rho -> Prop) -> Prop
 | [], [], ρ, Q => Q [] ρ
 | false :: fs, x :: xs, ρ, Q => fzL ρ x fun l ρ1 => pass fs xs ρ1 fun ls ρ2 => Q (l :: ls) ρ2
 | true :: fs, .sl i :: xs, ρ, Q => pass fs xs ρ fun ls ρ2 => need (ioAt ρ2 i) fun l => Q (l :: ls) ρ2
 | _, _, _, _ => False
noncomputable def q2 : Bool -> DV -> Option Nat
 | true, .sl i => some i
 | _, _ => none
noncomputable def qa2c : List Bool -> List DV -> Lent
 | f :: _, x :: _, 0 => q2 f x
 | _ :: fs, _ :: xs, j + 1 => qa2c fs xs j
 | [], _, _ => none
 | _ :: _, [], _ => none
noncomputable def flOf : Nat -> List Bool -> List DV -> List (Nat × Nat)
 | j, true :: fs, .sl i :: xs => (j, i) :: flOf (j + 1) fs xs
 | j, true :: fs, .d _ :: xs => flOf (j + 1) fs xs
 | j, false :: fs, _ :: xs => flOf (j + 1) fs xs
 | _, _, _ => []
theorem qb5g {fs : List Bool} : ∀ {xs : List DV} {j0 j i : Nat}, (j, i) ∈ flOf j0 fs xs ↔ ∃ k, j = j0 + k /\ qa2c fs xs k = some i := by
 induction fs with
 | nil => intro xs j0 j i; simp [flOf, qa2c, q2]
 | cons f fs ih =>
  intro xs j0 j i
  cases xs with
  | nil => cases f <;> simp [flOf, qa2c, q2]
  | cons x xs =>
   have step : (∃ k, j = j0 + 1 + k /\ qa2c fs xs k = some i) -> ∃ k, j = j0 + k /\ qa2c (f :: fs) (x :: xs) k = some i := fun ⟨k, e1, e2⟩ => ⟨k + 1, by omega, by cases f <;> cases x <;> exact e2⟩
   have back : ∀ k, j = j0 + (k + 1) -> qa2c (f :: fs) (x :: xs) (k + 1) = some i -> ∃ k, j = j0 + 1 + k /\ qa2c fs xs k = some i := fun k e1 e2 => ⟨k, by omega, by cases f <;> cases x <;> exact e2⟩
   cases f with
   | false =>
    have e : flOf j0 (false :: fs) (x :: xs) = flOf (j0 + 1) fs xs := by cases x <;> rfl
    rw [e, ih]
    refine ⟨step, fun ⟨k, e1, e2⟩ => ?_⟩
    cases k with
    | zero => cases x <;> cases e2
    | succ k => exact back k e1 e2
   | true =>
    cases x with
    | d y =>
     show (j, i) ∈ flOf (j0 + 1) fs xs ↔ _
     rw [ih]
     refine ⟨step, fun ⟨k, e1, e2⟩ => ?_⟩
     cases k with
     | zero => cases e2
     | succ k => exact back k e1 e2
    | sl i0 =>
     show (j, i) ∈ (j0, i0) :: flOf (j0 + 1) fs xs ↔ _
     rw [List.mem_cons, ih]
     constructor
     ·rintro (e | h)
      ·cases e; exact ⟨0, rfl, rfl⟩
      ·exact step h
     ·rintro ⟨k, e1, e2⟩
      cases k with
      | zero =>
       have e3 : some i0 = some i := e2
       cases e3
       exact .inl (by rw [e1]; rfl)
      | succ k => exact .inr (back k e1 e2)
inductive Args (K : PySem.W.Frag) (S : Addr -> Prop) (sa : Addr) (ρ : Rho) (σ : St) (H : Hp) : List Bool -> List DV -> List L -> List V -> Prop where
 | nil : Args K S sa ρ σ H [] [] [] []
 | dat {fs xs ls vs x y v} : AtD K H S y v -> Args K S sa ρ σ H fs xs ls vs -> Args K S sa ρ σ H (false :: fs) (x :: xs) (.d y :: ls) (v :: vs)
 | scr {fs xs ls vs x} : Args K S sa ρ σ H fs xs ls vs -> Args K S sa ρ σ H (false :: fs) (x :: xs) (.scr :: ls) (.ref sa :: vs)
 | io {fs xs ls vs v} {i : Nat} {l0 : L} : ρ[i]? = some (some l0) -> isOw l0 = true -> σ[i]? = some (some v) -> Args K S sa ρ σ H fs xs ls vs -> Args K S sa ρ σ H (true :: fs) (.sl i :: xs) (lend l0 :: ls) (v :: vs)
section
variable {K : PySem.W.Frag} {c : Rc} {O : Own} {ρ : Rho} {σ : St} {H H' : Hp} {S S' : Addr -> Prop}
theorem Rel.fzL {x : DV} {v : V} {Q : L -> Rho -> Prop} (R : Rel K c O ρ σ H) (a : AtV K (live c O) σ H x v) (h : fzL ρ x Q) : ∃ l ρ' O', Q l ρ' /\ Rel K c O' ρ' σ H /\ Pers K (live c O) H (live c O') H /\ ((∃ y, l = .d y /\ AtD K H (live c O') y v) ∨ (l = .scr /\ v = .ref c.sa)) := by
 cases x with
 | d y => exact ⟨.d y, ρ, O, h, R, .refl, .inl ⟨y, rfl, a⟩⟩
 | sl i =>
  have a' : σ[i]? = some (some v) := a
  simp only [L2.fzL] at h
  split at h
  ·rename_i y e
   obtain ⟨w, h1, h2⟩ := R.dat i y (qa3g e)
   rw [a'] at h1; cases h1
   exact ⟨.d y, ρ, O, h, R, .refl, .inl ⟨y, rfl, h2⟩⟩
  ·rename_i xs e
   have e' := qa3g e
   obtain ⟨R', P⟩ := R.freeze e'
   have hi : i < ρ.length := (List.getElem?_eq_some_iff.mp e').1
   obtain ⟨w, h1, h2⟩ := R'.dat i (.list xs) (by rw [List.getElem?_set_self hi])
   rw [a'] at h1; cases h1
   exact ⟨_, _, _, h, R', P, .inl ⟨_, rfl, h2⟩⟩
  ·rename_i e
   have := R.scr i (qa3g e)
   rw [a'] at this; cases this
   exact ⟨_, ρ, O, h, R, .refl, .inr ⟨rfl, rfl⟩⟩
  ·exact h.elim
theorem pass_ok {fs : List Bool} : ∀ {xs : List DV} {vs : List V} {ρ : Rho} {O : Own} {Q : List L -> Rho -> Prop}, Rel K c O ρ σ H -> AtVs K (live c O) σ H xs vs -> pass fs xs ρ Q ->
  ∃ ls ρ' O', Q ls ρ' /\ Rel K c O' ρ' σ H /\ Pers K (live c O) H (live c O') H /\ Args K (live c O') c.sa ρ' σ H fs xs ls vs := by
 induction fs with
 | nil =>
  intro xs vs ρ O Q R a h
  cases xs with
  | nil => cases a; exact ⟨[], ρ, O, h, R, .refl, .nil⟩
  | cons _ _ => exact (show False from h).elim
 | cons f fs ih =>
  intro xs vs ρ O Q R a h
  cases xs with
  | nil => cases f <;> exact (show False from h).elim
  | cons x xs =>
   cases a with
   | @cons _ _ v vs a as =>
   cases f with
   | false =>
    have h' : L2.fzL ρ x fun l ρ1 => pass fs xs ρ1 fun ls ρ2 => Q (l :: ls) ρ2 := h
    obtain ⟨l, ρ1, O1, h1, R1, P1, a1⟩ := R.fzL a h'
    obtain ⟨ls, ρ2, O2, h2, R2, P2, a2⟩ := ih R1 (AtVs.pers as P1) h1
    refine ⟨l :: ls, ρ2, O2, h2, R2, P1.trans P2, ?_⟩
    rcases a1 with ⟨y, rfl, a1⟩ | ⟨rfl, rfl⟩
    ·exact .dat (P2 _ _ a1) a2
    ·exact .scr a2
   | true =>
    cases x with
    | d y => exact (show False from h).elim
    | sl i =>
     have h' : pass fs xs ρ fun ls ρ2 => need (ioAt ρ2 i) fun l => Q (l :: ls) ρ2 := h
     obtain ⟨ls, ρ2, O2, h2, R2, P2, a2⟩ := ih R as h'
     obtain ⟨l, e, h2⟩ := ne h2
     refine ⟨l :: ls, ρ2, O2, h2, R2, P2, ?_⟩
     unfold ioAt at e
     split at e
     ·rename_i l0 el
      split at e
      ·rename_i ho
       cases e
       exact .io (qa3g el) ho a a2
      ·cases e
     ·cases e
theorem Args.begins {fs : List Bool} {xs : List DV} {ls : List L} {vs : List V} (a : Args K (live c O) c.sa ρ σ H fs xs ls vs) (inj : ∀ j k i, qa2c fs xs j = some i -> qa2c fs xs k = some i -> j = k) :
  Begins K c O ρ σ H (qa2c fs xs) (ls.map some) (vs.map some) := by
 refine ⟨?_, ?_, ?_, inj, ?_⟩
 ·clear inj
  induction a with
  | nil => intro j l e; simp at e
  | dat h _ ih =>
   intro j l e ho
   cases j with
   | zero => cases e; cases ho
   | succ j => obtain ⟨i, l0, h1, h2⟩ := ih j l (by simpa using e) ho; exact ⟨i, l0, h1, by simpa using h2⟩
  | scr _ ih =>
   intro j l e ho
   cases j with
   | zero => cases e; cases ho
   | succ j => obtain ⟨i, l0, h1, h2⟩ := ih j l (by simpa using e) ho; exact ⟨i, l0, h1, by simpa using h2⟩
  | @io fs xs ls vs v i l0 h1 h2 h3 _ ih =>
   intro j l e ho
   cases j with
   | zero => cases e; exact ⟨i, l0, rfl, h1, h2, rfl, by simpa using h3.symm⟩
   | succ j => obtain ⟨i, l0, h1, h2⟩ := ih j l (by simpa using e) ho; exact ⟨i, l0, h1, by simpa using h2⟩
 ·clear inj
  induction a with
  | nil => intro j x e; simp at e
  | dat h _ ih =>
   intro j x e
   cases j with
   | zero => cases e; exact ⟨_, rfl, h⟩
   | succ j => obtain ⟨v, h1, h2⟩ := ih j x (by simpa using e); exact ⟨v, by simpa using h1, h2⟩
  | scr _ ih =>
   intro j x e
   cases j with
   | zero => cases e
   | succ j => obtain ⟨v, h1, h2⟩ := ih j x (by simpa using e); exact ⟨v, by simpa using h1, h2⟩
  | @io fs xs ls vs v i l0 h1 h2 h3 _ ih =>
   intro j x e
   cases j with
   | zero => cases l0 <;> first | (cases h2; done) | cases e
   | succ j => obtain ⟨v, h1, h2⟩ := ih j x (by simpa using e); exact ⟨v, by simpa using h1, h2⟩
 ·clear inj
  induction a with
  | nil => intro j e; simp at e
  | dat h _ ih =>
   intro j e
   cases j with
   | zero => cases e
   | succ j => have := ih j (by simpa using e); simpa using this
  | scr _ ih =>
   intro j e
   cases j with
   | zero => rfl
   | succ j => have := ih j (by simpa using e); simpa using this
  | @io fs xs ls vs v i l0 h1 h2 h3 _ ih =>
   intro j e
   cases j with
   | zero => cases l0 <;> first | (cases h2; done) | cases e
   | succ j => have := ih j (by simpa using e); simpa using this
 ·clear inj
  rw [List.length_map, List.length_map]
  induction a with
  | nil => rfl
  | dat _ _ ih => simp [ih]
  | scr _ ih => simp [ih]
  | io _ _ _ _ ih => simp [ih]
theorem Args.mask {fs : List Bool} {xs : List DV} {ls : List L} {vs : List V} (a : Args K (live c O) c.sa ρ σ H fs xs ls vs) : ∀ (ρ' : Rho) {j i : Nat}, qa2c fs xs j = some i -> (L2.mask ls ρ')[j]?.join = ρ'[j]?.join := by
 have hd : ∀ ρ' : Rho, ρ'.head?.join = ρ'[0]?.join := fun ρ' => by cases ρ' <;> rfl
 have tl : ∀ (ρ' : Rho) (j : Nat), ρ'.tail[j]? = ρ'[j + 1]? := fun ρ' j => by cases ρ' <;> simp
 induction a with
 | nil => intro ρ' j i e; cases e
 | dat h _ ih =>
  intro ρ' j i e
  cases j with
  | zero => cases e
  | succ j =>
   have := ih ρ'.tail (j := j) (i := i) (by simpa [qa2c, q2] using e)
   rw [tl] at this
   rw [← this]; simp [L2.mask]
 | scr _ ih =>
  intro ρ' j i e
  cases j with
  | zero => cases e
  | succ j =>
   have := ih ρ'.tail (j := j) (i := i) (by simpa [qa2c, q2] using e)
   rw [tl] at this
   rw [← this]; simp [L2.mask]
 | @io fs xs ls vs v i0 l0 h1 h2 h3 _ ih =>
  intro ρ' j i e
  cases j with
  | zero =>
   have hio : isIO (lend l0) = true := by cases l0 <;> first | rfl | cases h2
   simp only [L2.mask, hio, if_true, List.getElem?_cons_zero]
   show ρ'.head?.join = _
   exact hd ρ'
  | succ j =>
   have := ih ρ'.tail (j := j) (i := i) (by simpa [qa2c, q2] using e)
   rw [tl] at this
   rw [← this]; simp [L2.mask]
end
theorem qc0o {ρi ρj : Rho} : ∀ {fl : List (Nat × Nat)} {ρ : Rho}, (∀ j i, (j, i) ∈ fl -> ρi[j]?.join = ρj[j]?.join) -> fills ρi fl ρ = fills ρj fl ρ
 | [], _, _ => rfl
 | (j, i) :: r, ρ, h => by
  have e : qa6u ρi j i ρ = qa6u ρj j i ρ := by
   unfold qa6u qa7y
   rw [h j i List.mem_cons_self]
  unfold fills
  rw [e]
  exact qc0o fun j' i' m => h j' i' (List.mem_cons_of_mem _ m)
noncomputable def dCall (fs : List Bool) (sp : DSp) (da : TDA) (ρ : Rho) (Q : RV -> Rho -> Prop) : Prop := da ρ fun xs ρ1 => pass fs xs ρ1 fun ls ρ2 => ((flOf 0 fs xs).map (·.2)).Nodup /\ sp ls fun r outs => Q r (fills outs (flOf 0 fs xs) ρ2)
noncomputable def qc2y (fs : List Bool) (sp : DSp) (da : TDA) : TDE := fun ρ Q => dCall fs sp da ρ fun r ρ1 => match r with
 | .d x => Q (.d x) ρ1
 | .new xs => Q (.d (.list xs)) ρ1
noncomputable def dCallF (fs : List Bool) (sp : DSp) (da : TDA) : TDF := fun ρ Q => dCall fs sp da ρ fun r ρ1 => match r with
 | .d _ => False
 | .new xs => Q xs ρ1
section
variable {K : PySem.W.Frag} {c : Rc} {O : Own} {ρ : Rho} {σ : St} {H H' : Hp} {S S' : Addr -> Prop}
theorem qe3t {fs : List Bool} {xs : List DV} (nd : ((flOf 0 fs xs).map (·.2)).Nodup) : ∀ j k i, qa2c fs xs j = some i -> qa2c fs xs k = some i -> j = k := fun j k i e1 e2 => by
 have m1 : (j, i) ∈ flOf 0 fs xs := qb5g.mpr ⟨j, by omega, e1⟩
 have m2 : (k, i) ∈ flOf 0 fs xs := qb5g.mpr ⟨k, by omega, e2⟩
 exact congrArg Prod.fst (key _ nd m1 m2 rfl)
where
 key : ∀ (l : List (Nat × Nat)) {a b : Nat × Nat}, (l.map (·.2)).Nodup -> a ∈ l -> b ∈ l -> a.2 = b.2 -> a = b := fun l => by
  induction l with
  | nil => intro a b _ h; cases h
  | cons x l ih =>
   intro a b nd ha hb e
   rw [List.map_cons, List.nodup_cons] at nd
   rcases List.mem_cons.mp ha with ea | ha2 <;> rcases List.mem_cons.mp hb with eb | hb2
   ·rw [ea, eb]
   ·exact absurd (List.mem_map.mpr ⟨b, hb2, by rw [← e, ea]⟩) nd.1
   ·exact absurd (List.mem_map.mpr ⟨a, ha2, by rw [e, eb]⟩) nd.1
   ·exact ih nd.2 ha2 hb2 e
theorem qc2z {fs : List Bool} {sp : DSp} {ta : TA} {da : TDA} (ha : ∀ (Qa : List DV -> Rho -> Prop) (Qv : List V -> Hp -> Prop), da ρ Qa -> (∀ xs ρ1 O1 vs H1, Qa xs ρ1 -> Rel K c O1 ρ1 σ H1 -> Pers K (live c O) H (live c O1) H1 -> AtVs K (live c O1) σ H1 xs vs -> Qv vs H1) -> ta σ H Qv)
  {Qd : RV -> Rho -> Prop} {Q : VK} (h : dCall fs sp da ρ Qd)
  (k : ∀ r ρ' O' v H', Qd r ρ' -> RetOk K c O' ρ' σ H' r v -> Pers K (live c O) H (match r with | .d _ => live c O' | .new _ => fun a => live c O' a /\ v ≠ .ref a) H' -> Q v H') : tCall (spD K sp) [] E0 ta σ H Q := by
 refine ha _ _ h fun xs ρ1 O1 vs H1 h1 R1 P1 a1 => ?_
 obtain ⟨ls, ρ2, O2, ⟨nd, h2⟩, R2, P2, as⟩ := pass_ok R1 a1 h1
 have inj := qe3t nd
 obtain ⟨Ri, Pi⟩ := R2.begin (b := true) (P := fun _ => False) (H' := H1) (as.begins inj) (Same.refl _) (fun p z => z.elim)
 rw [List.append_nil]
 have hf : ∀ j i, (j, i) ∈ flOf 0 fs xs -> qa2c fs xs j = some i := fun j i m => by
  obtain ⟨k, e1, e2⟩ := qb5g.mp m
  have : j = k := by omega
  subst this; exact e2
 have hf' : ∀ j i, qa2c fs xs j = some i -> (j, i) ∈ flOf 0 fs xs := fun j i e => qb5g.mpr ⟨j, by omega, e⟩
 refine ⟨c.in O2 (qa1t O2 ρ2 (qa2c fs xs)) (fun _ => False) true H1, qa1t O2 ρ2 (qa2c fs xs), ls, _, rfl, fun p z => z, fun p z => z, fun p z => .inr ⟨rfl, z⟩, fun i => rfl, Ri, h2, fun r O' ρ' σ' v H' q ok => ?_⟩
 have ef : fills (mask ls ρ') (flOf 0 fs xs) ρ2 = fills ρ' (flOf 0 fs xs) ρ2 := qc0o fun j i m => as.mask ρ' (hf j i m)
 rw [ef] at q
 have P12 := P1.trans P2
 have lentM : ∀ {b : Addr}, (∃ j, qa1t O2 ρ2 (qa2c fs xs) j = some b) -> ∃ vs, H1 b = some (.lst vs) := fun ⟨j, e⟩ => by
  obtain ⟨i, _, _, _, _, hO⟩ := qa3c e
  exact (R2.has i _ hO).2
 have hsame : ∀ {ci : Rc}, Rel K ci O' ρ' σ' H' -> ci.H0 = H1 -> (∀ p, ci.M p -> ∃ j, qa1t O2 ρ2 (qa2c fs xs) j = some p) -> (∀ b o, (∀ j, qa1t O2 ρ2 (qa2c fs xs) j ≠ some b) -> H1 b = some o -> H' b = some o) := fun {ci} Rf h0 hM b o n q => by
  refine Rf.same b o (fun z => ?_) (by rw [h0]; exact q)
  obtain ⟨j, e⟩ := hM b z
  exact n j e
 have keep : (∀ b o, (∀ j, qa1t O2 ρ2 (qa2c fs xs) j ≠ some b) -> H1 b = some o -> H' b = some o) -> Keep (live c O2) H1 H' := fun fr =>
  ⟨fun b ws e => fr b _ (fun j z => by obtain ⟨vs, w⟩ := lentM ⟨j, z⟩; rw [e] at w; cases w) e, fun b o u e => fr b _ (fun j z => by obtain ⟨vs, w⟩ := lentM ⟨j, z⟩; rw [e] at w; cases w) e,
   fun b ws hl e => fr b _ (fun j z => by obtain ⟨i, _, _, _, _, hO⟩ := qa3c z; exact hl.2.2 i hO) e⟩
 cases r with
 | d x =>
  obtain ⟨Rf, ax⟩ := ok
  have fr := hsame Rf rfl (fun p z => z)
  have hl : ∀ a, live (c.in O2 (qa1t O2 ρ2 (qa2c fs xs)) (fun _ => False) true H1) O' a -> live c O2 a := fun a z => z.1
  have hp : Pers K (live c O2) H1 (live c O2) H' := .of (keep fr) fun _ z => z
  have hP : Pers K (live (c.in O2 (qa1t O2 ρ2 (qa2c fs xs)) (fun _ => False) true H1) O') H' (live c O2) H' := .of (Keep.refl _ _) hl
  have Rn := R2.finish (P' := c.P) nd hf hf' Rf (fun _ => rfl) rfl rfl fr (fun j p e => Rf.ml p ⟨j, e⟩) hP hp (fun p z => .inl z)
  exact k (.d x) _ O2 v H' q ⟨Rn, hP _ _ ax⟩ (P12.trans hp)
 | new ys =>
  obtain ⟨p, ws, rfl, Rf, ff, hH, ax⟩ := ok
  have fr := hsame Rf rfl (fun p z => z)
  have h1p : H1 p = none := ff.1
  have hl : ∀ a, live ((c.in O2 (qa1t O2 ρ2 (qa2c fs xs)) (fun _ => False) true H1).add p) O' a -> live (c.add p) O2 a := fun a z => by
   have z1 : live c O2 a := z.1
   exact qb5d z1 fun e => z.2.1 (.inr e)
  have hp : Pers K (live c O2) H1 (live (c.add p) O2) H' := fun d u h => by
   refine AtD.mono (S := live (c.add p) O2) ((keep fr).less fun b z => (qa7v z).1) _ _ (AtD.less h1p (fun a z n => qb5d z n) _ _ h)
  have hP : Pers K (live ((c.in O2 (qa1t O2 ρ2 (qa2c fs xs)) (fun _ => False) true H1).add p) O') H' (live (c.add p) O2) H' := .of (Keep.refl _ _) hl
  have fp := qc1i R2 h1p
  have Rn : Rel K (c.add p) O2 (fills ρ' (flOf 0 fs xs) ρ2) σ H' := R2.finish (P' := fun a => c.P a ∨ a = p) nd hf hf' Rf (fun _ => rfl) rfl rfl fr (fun j q e => Rf.ml q ⟨j, e⟩) hP hp (fun q z => z.elim .inl fun e => .inr (by subst e; exact ⟨by rw [hH]; exact (fun z => nomatch z), fp.2.2.2⟩))
  refine k (.new ys) _ O2 _ H' q ⟨p, ws, rfl, Rn, fp, hH, hP.all ax⟩ ((P12.trans hp).trans (.of (Keep.refl _ _) fun a z => ⟨(qa7v z).1, fun e => (qa7v z).2 (by cases e; rfl)⟩))
theorem qe3u {fs : List Bool} {sp : DSp} {ta : TA} {da : TDA} (ha : AdA K ta da) (R : Rel K c O ρ σ H) {Qd : RV -> Rho -> Prop} {Q : VK} (h : dCall fs sp da ρ Qd)
  (k : ∀ r ρ' O' v H', Qd r ρ' -> RetOk K c O' ρ' σ H' r v -> Pers K (live c O) H (match r with | .d _ => live c O' | .new _ => fun a => live c O' a /\ v ≠ .ref a) H' -> Q v H') : tCall (spD K sp) [] E0 ta σ H Q :=
 qc2z (fun Qa Qv q k' => ha c O ρ σ H Qa Qv R q k') h k
theorem qe6b {fs : List Bool} {sp : DSp} {ta : TA} {da : TDA} (ha : AdA K ta da) : AdE K (tCall (spD K sp) [] E0 ta) (qc2y fs sp da) := fun c O ρ σ H Qd Q R h k =>
 qe3u ha R h fun r ρ' O' v H' q ok P => by
  cases r with
  | d x => exact k _ _ _ _ _ q ok.1 P ok.2
  | new xs =>
   obtain ⟨p, ws, rfl, Rn, fp, hH, ax⟩ := ok
   obtain ⟨R2, P2⟩ := Rn.unadd
   exact k _ _ _ _ _ q R2 (P.trans (.of (Keep.refl _ _) fun a z => z.1)) (qa5l ⟨Rn.frs p fp.1, fp.2.2.1, fp.2.2.2⟩ hH (P2.all ax))
end
section
variable {X : Cx} {k : Nat} {f : Addr} {fd : FuncData} {ps : List Str} {sp : DSp} {x : Str} {st : Stmt} {p pos : Pos} {e : Expr} {es : List Expr} {da : TDA}
theorem qa0g (fs : List Bool) (d : Def X.K X.mg x st ps f fd) (g : FnOk X.prog X.w X.K X.mg X.base CX0 k f fd ps (spD X.K sp)) (hr : Room k X.A) (hg : Gl X x) (ha : DA X (e :: es) da) (hdb : (x == ("__debug__" : Str)) = false := by decide)
  (he : starEach (e :: es) X.env = (false, eval e X.env) :: starEach es X.env := by rfl) (hpl : (backTo pos (starEach es X.env)).any (·.1) = false := by rfl) : DE X (.Call (.Name x p) (e :: es) [] pos) (qc2y fs sp da) := by
 obtain ⟨t, pt, at_⟩ := ha
 exact ⟨_, qb5b d g hr hg pt hdb he hpl, qe6b at_⟩
end
end L2
end
section
namespace L2
open PySem PySem.Spec PyProof.Rows
noncomputable def capR (n : Nat) (cap : List (Str × Nat)) (ρ : Rho) : Rho := List.replicate n none ++ cap.map fun p => (ρ[p.2]?.join).map lend
noncomputable def flC : Nat -> List (Str × Nat) -> List (Nat × Nat)
 | _, [] => []
 | j, p :: r => (j, p.2) :: flC (j + 1) r
noncomputable def qb1a (n : Nat) (cap : List (Str × Nat)) : Lent := fun j => if j < n then none else (cap[j - n]?).map (·.2)
theorem qd8q : ∀ {cap : List (Str × Nat)} {n j i : Nat}, (j, i) ∈ flC n cap ↔ n <= j /\ (cap[j - n]?).map (·.2) = some i := by
 intro cap
 induction cap with
 | nil => intro n j i; simp [flC]
 | cons p r ih =>
  intro n j i
  unfold flC
  rw [List.mem_cons, ih]
  constructor
  ·rintro (e | ⟨h1, h2⟩)
   ·cases e; simp
   ·refine ⟨by omega, ?_⟩
    have : j - n = (j - (n + 1)) + 1 := by omega
    rw [this, List.getElem?_cons_succ]; exact h2
  ·rintro ⟨h1, h2⟩
   by_cases e : j = n
   ·subst e
    simp at h2
    exact .inl (by rw [h2])
   ·refine .inr ⟨by omega, ?_⟩
    have : j - n = (j - (n + 1)) + 1 := by omega
    rw [this, List.getElem?_cons_succ] at h2; exact h2
theorem qd8r : ∀ {cap : List (Str × Nat)} {n : Nat}, (flC n cap).map (·.2) = cap.map (·.2)
 | [], _ => rfl
 | p :: r, n => by unfold flC; rw [List.map_cons, List.map_cons, qd8r]
noncomputable def qa2o (g : TDG) (tt : TDT) (te : TDE) (Q : List PyData -> Rho -> Prop) : List PyData -> Rho -> List PyData -> Prop
 | [], ρ, acc => Q acc ρ
 | x :: r, ρ, acc => g x ρ fun ρ1 => tt ρ1 fun b ρ2 => if b = true then te ρ2 fun y ρ3 => fz ρ3 y fun z ρ4 => qa2o g tt te Q r ρ4 (acc ++ [z]) else qa2o g tt te Q r ρ2 acc
noncomputable def dComp (n : Nat) (cap : List (Str × Nat)) (di : TDI) (g : TDG) (tt : TDT) (te : TDE) : TDF := fun ρ Q => di ρ fun xs ρ1 => xs.length <= 1000000 /\ (cap.map (·.2)).Nodup /\ qa2o g tt te (fun acc ρ' => Q acc (fills ρ' (flC n cap) ρ1)) xs (capR n cap ρ1) []
section
variable {K : PySem.W.Frag} {c : Rc} {O : Own} {ρ : Rho} {σ : St} {H H' : Hp} {S S' : Addr -> Prop}
theorem qe3v {l : L} : isOw (lend l) = isOw l := by cases l <;> rfl
theorem qe1b {n : Nat} {cap : List (Str × Nat)} {own : List Str} (hn : own.length = n) (R : Rel K c O ρ σ H) (nd : (cap.map (·.2)).Nodup) : Begins K c O ρ σ H (qb1a n cap) (capR n cap ρ) (qb0y own cap σ) := by
 have at_ : ∀ {j : Nat} {l : L}, (capR n cap ρ)[j]? = some (some l) -> n <= j /\ ∃ p l0, cap[j - n]? = some p /\ ρ[p.2]? = some (some l0) /\ l = lend l0 := fun {j l} e => by
  unfold capR at e
  by_cases hj : j < n
  ·rw [List.getElem?_append_left (by simpa using hj), List.getElem?_replicate, if_pos hj] at e; cases e
  ·rw [List.getElem?_append_right (by simpa using Nat.le_of_not_lt hj), List.length_replicate, List.getElem?_map] at e
   cases q : cap[j - n]? with
   | none => rw [q] at e; cases e
   | some p =>
    rw [q] at e
    have e' : (ρ[p.2]?.join).map lend = some l := Option.some.inj e
    cases q2 : ρ[p.2]?.join with
    | none => rw [q2] at e'; cases e'
    | some l0 => rw [q2] at e'; cases e'; exact ⟨by omega, p, l0, rfl, qa3g q2, rfl⟩
 have st : ∀ {j : Nat} {p : Str × Nat}, n <= j -> cap[j - n]? = some p -> (qb0y own cap σ)[j]? = some (σ[p.2]?).join := fun {j p} h1 h2 => by
  unfold qb0y
  rw [List.getElem?_append_right (by simp; omega), List.length_replicate, hn, List.getElem?_map, h2]; rfl
 refine ⟨fun j l e ho => ?_, fun j x e => ?_, fun j e => ?_, fun j k i e1 e2 => ?_, ?_⟩
 ·obtain ⟨h1, p, l0, h2, h3, h4⟩ := at_ e
  have ho' : isOw l0 = true := by rw [h4, qe3v] at ho; exact ho
  obtain ⟨q, _, hq⟩ := R.ow h3 ho'
  refine ⟨p.2, l0, ?_, h3, ho', h4, ?_⟩
  ·unfold qb1a; rw [if_neg (by omega), h2]; rfl
  ·rw [st h1 h2, hq]; rfl
 ·obtain ⟨h1, p, l0, h2, h3, h4⟩ := at_ e
  cases l0 with
  | d y =>
   cases h4
   obtain ⟨v, e1, e2⟩ := R.dat _ _ h3
   exact ⟨v, by rw [st h1 h2, e1]; rfl, e2⟩
  | _ => cases h4
 ·obtain ⟨h1, p, l0, h2, h3, h4⟩ := at_ e
  cases l0 with
  | scr => rw [st h1 h2, R.scr _ h3]; rfl
  | _ => cases h4
 ·unfold qb1a at e1 e2
  split at e1
  ·cases e1
  ·split at e2
   ·cases e2
   ·rename_i h1 h2
    rw [← List.getElem?_map] at e1 e2
    obtain ⟨a1, b1⟩ := List.getElem?_eq_some_iff.mp e1
    obtain ⟨a2, b2⟩ := List.getElem?_eq_some_iff.mp e2
    have := (List.getElem_inj nd).mp (b1.trans b2.symm)
    omega
 ·unfold qb0y capR; simp [hn]
theorem qd8s {n : Nat} {own : List Str} {cap : List (Str × Nat)} {wi : TI} {g : TG} {tt : TT} {te : TE} {di : TDI} {dg : TDG} {dt : TDT} {de : TDE} (hn : own.length = n) (hi : AdI K wi di) (hg : AdG K g dg) (ht : AdT K tt dt) (he : AdE K te de) :
  AdF K (tComp own cap wi g tt te) (dComp n cap di dg dt de) := by
 intro c O ρ σ H Qd Q R h k
 refine hi c O ρ σ H _ _ R h fun xs ρ1 O1 J H1 h1 R1 P1 I1 D hD => ?_
 obtain ⟨hz, nd, hloop⟩ := h1
 have B := qe1b (own := own) hn R1 nd
 generalize hOc : qa1t O1 ρ1 (qb1a n cap) = Oc
 have s0 := qa2y hD (.lst [])
 obtain ⟨R2, P2⟩ := R1.begin (b := false) (P := fun a => a = D) B s0 (fun p e => by subst e; exact ⟨hD, by rw [qa0z]; exact fun z => nomatch z⟩)
 rw [hOc] at R2 P2
 have lentM : ∀ {b : Addr}, (∃ j, Oc j = some b) -> ∃ vs, H1 b = some (.lst vs) := fun ⟨j, e⟩ => by
  rw [← hOc] at e
  obtain ⟨i, _, _, _, _, hO⟩ := qa3c e
  exact (R1.has i _ hO).2
 have nD : ∀ j, Oc j ≠ some D := fun j e => by
  obtain ⟨vs, q⟩ := lentM ⟨j, e⟩
  rw [hD] at q; cases q
 -- what holds between two turns
 let Jn : St -> Hp -> Own -> Rho -> List PyData -> List V -> Prop := fun σ' H' O' ρ' acc ys => Rel K (c.in O1 Oc (fun a => a = D) false H') O' ρ' σ' H' /\ H' D = some (.lst ys) /\ qa0e K H' (live (c.in O1 Oc (fun a => a = D) false H') O') acc ys /\
  (∀ b o, (∀ j, Oc j ≠ some b) -> b ≠ D -> H1 b = some o -> H' b = some o) /\ Pers K (live c O1) H1 (live (c.in O1 Oc (fun a => a = D) false H') O') H'
 refine ⟨fun i m σ' H' => m = xs.length - i /\ i <= xs.length /\ ∃ O' ρ' acc ys, Jn σ' H' O' ρ' acc ys /\ acc.length <= i /\ qa2o dg dt de (fun acc ρ' => Qd acc (fills ρ' (flC n cap) ρ1)) (xs.drop i) ρ' acc, ⟨xs.length, by simp, Nat.zero_le _, Oc, _, [], [], ⟨R2, qa0z, .nil, fun b o _ nb q => by rw [qa1j nb]; exact q, P2⟩, Nat.le_refl _, by rw [List.drop_zero]; exact hloop⟩, ?_⟩
 rintro i m σ' H' ⟨rfl, hle, O', ρ', acc, ys, ⟨R3, hDy, hacc, fr3, P3⟩, hal, q3⟩
 obtain ⟨it, stop⟩ := I1 _ _ P3
 by_cases hlt : i < xs.length
 ·rw [List.drop_eq_getElem_cons hlt] at q3
  obtain ⟨go, yld⟩ := it i xs[i] (List.getElem?_eq_getElem hlt)
  have q3' : dg xs[i] ρ' fun ρ1' => dt ρ1' fun b ρ2 => if b = true then de ρ2 fun y ρ3 => fz ρ3 y fun z ρ4 => qa2o dg dt de (fun acc ρ' => Qd acc (fills ρ' (flC n cap) ρ1)) (xs.drop (i + 1)) ρ4 (acc ++ [z]) else qa2o dg dt de (fun acc ρ' => Qd acc (fills ρ' (flC n cap) ρ1)) (xs.drop (i + 1)) ρ2 acc := q3
  -- to the next turn, at a heap that differs from H4 at D alone
  have next : ∀ (σ4 : St) (H4 H5 : Hp) (O4 : Own) (ρ4 : Rho) (acc' : List PyData) (ys' : List V), Rel K (c.in O1 Oc (fun a => a = D) false H') O4 ρ4 σ4 H4 -> Pers K (live (c.in O1 Oc (fun a => a = D) false H') O') H' (live (c.in O1 Oc (fun a => a = D) false H') O4) H4 ->
    H5 D = some (.lst ys') -> (∀ b, b ≠ D -> H5 b = H4 b) -> qa0e K H4 (live (c.in O1 Oc (fun a => a = D) false H') O4) acc' ys' -> Jn σ4 H5 O4 ρ4 acc' ys' := fun σ4 H4 H5 O4 ρ4 acc' ys' R4 P4 h5 ne a4 => by
   have h4D : H4 D ≠ none := R4.kept D (by show H' D ≠ none; rw [hDy]; exact fun z => nomatch z)
   have kp : Keep (live (c.in O1 Oc (fun a => a = D) false H') O4) H4 H5 := by
    have hDl : ∃ zs, H4 D = some (.lst zs) := ⟨ys, R4.same D _ (fun ⟨j, e⟩ => nD j e) hDy⟩
    obtain ⟨zs, hDl⟩ := hDl
    exact ⟨fun b ws e => by rw [ne b (qa5s e hDl (by intro z; cases z))]; exact e, fun b o u e => by rw [ne b (qa5s e hDl (by intro z; cases z))]; exact e, fun b ws hl e => by rw [ne b (fun z => hl.2.1 z)]; exact e⟩
   have hl : ∀ a, live (c.in O1 Oc (fun a => a = D) false H') O4 a -> live (c.in O1 Oc (fun a => a = D) false H5) O4 a := fun a z => z
   have P5 : Pers K (live (c.in O1 Oc (fun a => a = D) false H') O4) H4 (live (c.in O1 Oc (fun a => a = D) false H5) O4) H5 := .of kp hl
   have inM : ∀ i p, O4 i = some p -> ∃ j, Oc j = some p := fun i p e => by
    rcases (R4.has' i p e).1 with z | z
    ·exact z
    ·exact absurd z.1 Bool.false_ne_true
   refine ⟨R4.to (fun _ => rfl) (fun _ _ _ z => z) rfl rfl P5 (fun i p vs e q => ?_) (fun i p e _ => .inl (inM i p e)) (fun p z => z.elim .inl fun w => absurd w.1 Bool.false_ne_true) (fun p z => ?_) (fun b o _ z => z) (fun b z => z) (fun p z => ?_) (fun p z => ?_) (fun _ => rfl) (R4.sc.keep kp), h5, P5.all a4, fun b o n1 n2 q => ?_, (P3.trans P4).trans P5⟩
   ·obtain ⟨j, ej⟩ := inM i p e
    rw [ne p (fun z => nD j (by rw [← z]; exact ej))]; exact q
   ·have z' : H5 p = none := z
    have np : p ≠ D := by rintro rfl; rw [h5] at z'; cases z'
    rw [ne p np] at z'
    exact R4.frs p (R4.free0 z')
   ·obtain ⟨j, ej⟩ := z
    obtain ⟨vs, q⟩ := R4.ml p ⟨j, ej⟩
    exact ⟨vs, by rw [ne p (fun w => nD j (by rw [← w]; exact ej))]; exact q⟩
   ·rcases z with z | ⟨j, ej⟩
    ·rw [show p = D from z, h5]; exact fun w => nomatch w
    ·obtain ⟨vs, q⟩ := R4.ml p ⟨j, ej⟩
     rw [ne p (fun w => nD j (by rw [← w]; exact ej)), q]; exact fun w => nomatch w
   ·rw [ne b n2]
    exact R4.same b o (fun ⟨j, e⟩ => n1 j e) (fr3 b o n1 n2 q)
  refine .inr ⟨go, fun σ'' H'' => ∃ O'' ρ'' acc' ys', Jn σ'' H'' O'' ρ'' acc' ys' /\ acc'.length <= i + 1 /\ qa2o dg dt de (fun acc ρ' => Qd acc (fills ρ' (flC n cap) ρ1)) (xs.drop (i + 1)) ρ'' acc', fun σ'' H'' ⟨O'', ρ'', acc', ys', a1, a2, a3⟩ => ⟨xs.length - (i + 1), by omega, rfl, hlt, O'', ρ'', acc', ys', a1, a2, a3⟩, fun v H4 y => ?_⟩
  obtain ⟨s4, a4⟩ := yld v H4 y
  refine hg _ O' ρ' σ' H4 xs[i] v _ _ (R3.grow s4) a4 q3' fun O5 ρ5 σ5 R5 P5 q5 => ?_
  refine ht _ O5 ρ5 σ5 H4 _ _ R5 q5 fun b ρ6 O6 H6 q6 R6 P6 => ?_
  have P06 := ((Pers.same s4).trans P5).trans P6
  have dAt : ∀ {O9 : Own} {ρ9 : Rho} {σ9 : St} {H9 : Hp}, Rel K (c.in O1 Oc (fun a => a = D) false H') O9 ρ9 σ9 H9 -> H9 D = some (.lst ys) := fun Rx => Rx.same D _ (fun ⟨j, e⟩ => nD j e) hDy
  cases b with
  | false =>
   rw [if_neg Bool.false_ne_true] at q6 ⊢
   exact ⟨O6, ρ6, acc, ys, next σ5 H6 H6 O6 ρ6 acc ys R6 P06 (dAt R6) (fun _ _ => rfl) (P06.all hacc), by omega, q6⟩
  | true =>
   rw [if_pos rfl] at q6 ⊢
   refine he _ O6 ρ6 σ5 H6 _ _ R6 q6 fun y ρ7 O7 u H7 q7 R7 P7 a7 => ?_
   obtain ⟨z, ρ8, O8, q8, R8, P8, a8⟩ := R7.fz a7 q7
   have P08 := (P06.trans P7).trans P8
   have accl : ys.length = acc.length := hacc.length
   refine ⟨ys, dAt R8, by rw [accl]; exact mil (by omega), O8, ρ8, acc ++ [z], ys ++ [u], next σ5 H7 _ O8 ρ8 _ _ R8 P08 qa0z (fun b nb => qa1j nb) ((P08.all hacc).snoc a8), by rw [List.length_append, List.length_singleton]; omega, q8⟩
 ·have e : i = xs.length := by omega
  subst e
  rw [List.drop_eq_nil_of_le (Nat.le_refl _)] at q3
  refine .inl ⟨stop, ?_⟩
  have fr : ∀ b o, (∀ j, qa1t O1 ρ1 (qb1a n cap) j ≠ some b) -> H1 b = some o -> H' b = some o := fun b o n1 q => fr3 b o (by rw [← hOc]; exact n1) (qa3y q hD) q
  have fp := qc1i R1 hD
  have hl : ∀ a, live (c.in O1 Oc (fun a => a = D) false H') O' a -> live (c.add D) O1 a := fun a z => qb5d z.1 z.2.1
  have hP : Pers K (live (c.in O1 Oc (fun a => a = D) false H') O') H' (live (c.add D) O1) H' := .of (Keep.refl _ _) hl
  have hp : Pers K (live c O1) H1 (live (c.add D) O1) H' := P3.trans hP
  have hf : ∀ j i, (j, i) ∈ flC n cap -> qb1a n cap j = some i := fun j i m => by
   obtain ⟨h1, h2⟩ := qd8q.mp m
   unfold qb1a; rw [if_neg (by omega)]; exact h2
  have hf' : ∀ j i, qb1a n cap j = some i -> (j, i) ∈ flC n cap := fun j i e => by
   unfold qb1a at e
   split at e
   ·cases e
   ·exact qd8q.mpr ⟨by omega, e⟩
  have Rn : Rel K (c.add D) O1 (fills ρ' (flC n cap) ρ1) σ H' := R1.finish (P' := fun a => c.P a ∨ a = D) (by rw [qd8r]; exact nd) hf hf' R3 (fun j => by rw [hOc]; rfl) rfl rfl fr (fun j p e => R3.ml p ⟨j, by rw [← hOc]; exact e⟩) hP hp (fun q z => z.elim .inl fun e => .inr (by subst e; exact ⟨by rw [hDy]; exact (fun z => nomatch z), fp.2.2.2⟩))
  exact k _ _ O1 D ys H' q3 Rn (P1.trans hp) fp hDy (hP.all hacc)
end
end L2
end
section
namespace L2
open PySem PySem.Spec PyProof.Rows
noncomputable def DG (X : Cx) (target : Expr) (dg : TDG) : Prop := ∃ g, PG X target g /\ AdG X.K g dg
noncomputable def DGs (X : Cx) (ts : List Expr) (dg : TDGs) : Prop := ∃ g, PGs X ts g /\ AdGs X.K g dg
noncomputable def DIf (X : Cx) (ifs : List Expr) (dt : TDT) : Prop := ∃ t, PIf X ifs t /\ AdT X.K t dt
section
variable {X : Cx} {st : Stmt} {rest : List Stmt} {e tg iter a b c : Expr} {es ifs : List Expr} {de da db dc : TDE} {df : TDF} {dt du : TDS} {dg : TDG} {dgs : TDGs} {di : TDI} {dtt : TDT} {daa : TDA} {pos : Pos}
theorem qa0p : DSs X [] dNext := ⟨_, qb9y, ad_next⟩
theorem qa0f (h1 : DS X st dt) (h2 : DSs X rest du) : DSs X (st :: rest) (dSeq dt du) := let ⟨_, p, a⟩ := h1; let ⟨_, p', a'⟩ := h2; ⟨_, qa5t p p', ad_seq a a'⟩
theorem qa0i (h1 : DS X st dt) : DSs X [st] dt := let ⟨_, p, a⟩ := h1; ⟨_, qa8w p, a⟩
theorem qc4j (he : DE X e de) (hs : swapsWith e none pos.line X.env = pure false := by rfl) : DS X (.Expr e pos) (dDrop de) := let ⟨_, p, a⟩ := he; ⟨_, ps_expr p hs, ad_drop a⟩
theorem qa0k (he : DE X e de) : DS X (.Return (some e) pos) (dRet de) := let ⟨_, p, a⟩ := he; ⟨_, qa9w p, ad_ret a⟩
theorem ds_retF (he : DF X e df) : DS X (.Return (some e) pos) (dRetF df) := let ⟨_, p, a⟩ := he; ⟨_, qa9w p, ad_retF a⟩
theorem qa1f {c : Expr} {a b : List Stmt} (hc : DT X c dtt) (ha : DSs X a dt) (hb : DSs X b du) : DS X (.If c a b pos) (dIf dtt dt du) := let ⟨_, p, a⟩ := hc; let ⟨_, p', a'⟩ := ha; let ⟨_, p2, a2⟩ := hb; ⟨_, ps_if p p' p2, ad_if a a' a2⟩
theorem qa1g {i : Nat} {x : Str} {pos' : Pos} (hN : X.N.Nodup) (hi : X.N[i]? = some x) (hx : Loc X.env.scope x) (he : DE X e de) (hs : swapsWith e (some (.Name x pos')) pos.line X.env = pure false := by rfl) (hf : X.fn x = true ∨ X.env.scope.names.lookup x = some .local := by first | exact .inl rfl | exact .inr rfl) :
  DS X (.Assign [.Name x pos'] e pos) (dSet i de) := let ⟨_, p, a⟩ := he; ⟨_, qb1m hN hi hx p hs hf, ad_set a⟩
theorem qb4o {i : Nat} {x : Str} {pos' : Pos} (hN : X.N.Nodup) (hi : X.N[i]? = some x) (hx : Loc X.env.scope x) (he : DF X e df) (hs : swapsWith e (some (.Name x pos')) pos.line X.env = pure false := by rfl) (hf : X.fn x = true ∨ X.env.scope.names.lookup x = some .local := by first | exact .inl rfl | exact .inr rfl) :
  DS X (.Assign [.Name x pos'] e pos) (dSetF i df) := let ⟨_, p, a⟩ := he; ⟨_, qb1m hN hi hx p hs hf, qd8p a⟩
theorem qa1u {i : Nat} {x : Str} (hN : X.N.Nodup) (hi : X.N[i]? = some x) (hx : Loc X.env.scope x) (hf : X.fn x = true ∨ X.env.scope.names.lookup x = some .local := by first | exact .inl rfl | exact .inr rfl | assumption) : DG X (.Name x pos) (qc8y i) := ⟨_, pg_name hN hi hx hf, ag_name⟩
theorem qc4k : DGs X [] dgNil := ⟨_, pgs_nil, ag_nil⟩
theorem qa9d (h1 : DG X e dg) (h2 : DGs X es dgs) (hs : (assignEach (e :: es) X.env).map (·.2) = assign e X.env :: (assignEach es X.env).map (·.2) := by rfl) : DGs X (e :: es) (qc8z dg dgs) := let ⟨_, p, a⟩ := h1; let ⟨_, p', a'⟩ := h2; ⟨_, qe5g p p' hs, ag_cons a a'⟩
theorem qc9g {k n : Nat} (hc : X.calm = true) (h : DGs X es dgs) (hn : (assignEach es X.env).length = n := by rfl) (hst : (assignEach es X.env).findIdx? (·.1) = none := by rfl) : DG X (.Tuple es k pos) (dgTup n dgs) := let ⟨_, p, a⟩ := h; ⟨_, pg_tup hc p hn hst, ag_tup a⟩
theorem qe6c (i : Nat) {x : Str} {b : Expr} {p p2 : Pos} (hN : X.N[i]? = some x) (hb : DE X b db) (he : DE X e de) (hv : Vis X.env.scope x := by first | exact Or.inl rfl | exact Or.inr (Or.inl rfl) | exact Or.inr (Or.inr rfl)) (hd : (x == ("__debug__" : Str)) = false := by decide)
  (hcd : (x == ("__classdict__" : Str)) = false := by decide) (ha : ∀ v, assign (.Subscript (.Name x p) b p2) X.env v = (do
   let ov ← holding [v] (eval (.Name x p) X.env)
   let iv ← holding [v, ov] (eval b X.env)
   standAt p2
   holding [v, ov, iv] (setItem ov iv v)
   release [v, ov, iv] []) := by intro _; rfl)
  (hs : swapsWithSole [.Subscript (.Name x p) b p2] e pos.line X.env = pure false := by rfl) (hw : swappedStores [.Subscript (.Name x p) b p2] e X.env = pure none := by rfl)
  (h1 : (assignEach [.Subscript (.Name x p) b p2] X.env).map (·.2) = [assign (.Subscript (.Name x p) b p2) X.env] := by rfl) : DS X (.Assign [.Subscript (.Name x p) b p2] e pos) (qb8j i db de) := by
 obtain ⟨ti, pi, ai⟩ := hb
 obtain ⟨te, pe, ae⟩ := he
 exact ⟨_, ps_asg pe (pg_sub (qb1k hN hv hd hcd) pi set_list ha) hs hw h1, qe5x ai ae⟩
theorem qe3w (i : Nat) {x : Str} {p p2 : Pos} (hN : X.N[i]? = some x) (he : DE X e de) (hv : Vis X.env.scope x := by first | exact Or.inl rfl | exact Or.inr (Or.inl rfl) | exact Or.inr (Or.inr rfl)) (hd : (x == ("__debug__" : Str)) = false := by decide)
  (hcd : (x == ("__classdict__" : Str)) = false := by decide) (hs : starEach [e] X.env = [(false, eval e X.env)] := by rfl)
  (hbase : attributeBase (.Name x p) "append" X.env (eval (.Name x p) X.env) = eval (.Name x p) X.env := by rfl)
  (hfew : ((backTo pos (starEach [e] X.env)).all (fun x => !x.1) && (backToKw pos (keywordEach [] X.env)).all (fun x => x.1.isSome)
   && decide (([e] : List Expr).length + ([] : List Keyword).length + (if ([] : List Keyword).isEmpty then 0 else 1) < 30)) = true := by rfl)
  (hline : (p2.endLine == pos.line) = true := by rfl) : DE X (.Call (.Attribute (.Name x p) "append" p2) [e] [] pos) (qc4i i de) := by
 obtain ⟨te, pe, ae⟩ := he
 exact ⟨_, pe_bm PySem.F.plainAttrs_list PySem.F.slot_list_append PySem.F.type_list_append qc6j (qb1k hN hv hd hcd) (qa2g pe qa5k hs) hbase hfew hline hs rfl, qe3r ae⟩
theorem de_pop (i : Nat) {x : Str} {p p2 : Pos} (hN : X.N[i]? = some x) (hv : Vis X.env.scope x := by first | exact Or.inl rfl | exact Or.inr (Or.inl rfl) | exact Or.inr (Or.inr rfl)) (hd : (x == ("__debug__" : Str)) = false := by decide)
  (hcd : (x == ("__classdict__" : Str)) = false := by decide) (hbase : attributeBase (.Name x p) "pop" X.env (eval (.Name x p) X.env) = eval (.Name x p) X.env := by rfl) (hline : (p2.endLine == pos.line) = true := by rfl) : DE X (.Call (.Attribute (.Name x p) "pop" p2) [] [] pos) (dPop i) :=
 ⟨_, pe_bm0 PySem.F.plainAttrs_list PySem.F.slot_list_pop PySem.F.type_list_pop mt_pop (qb1k hN hv hd hcd) hbase hline, ad_pop⟩
theorem qe6d {c : Expr} {body : List Stmt} (hp : PassesOwn (model X.prog X.w) X.A X.env X.xe) (hc : DT X c dtt) (hb : DSs X body dt) : DS X (.While c body [] pos) (qc9a dtt dt) := let ⟨_, p, a⟩ := hc; let ⟨_, p', a'⟩ := hb; ⟨_, qe5h hp p p', qe5y a a'⟩
theorem qa7z {body : List Stmt} (hp : PassesOwn (model X.prog X.w) X.A X.env X.xe) (hc : X.calm = true) (hi : DI X tg iter di) (hg : DG X tg dg) (hb : DSs X body dt) (hs : ∀ x, foldedSetIterable iter X.env x = pure x := by intro _; rfl) : DS X (.For tg iter body [] pos) (dFor di dg dt) :=
 let ⟨_, p, a⟩ := hi; let ⟨_, p', a'⟩ := hg; let ⟨_, p2, a2⟩ := hb; ⟨_, ps_for hp hc p p' p2 hs, ad_for a a' a2⟩
theorem qa6b (h : DE X e de) : DI X tg e (diDat de) := let ⟨_, p, a⟩ := h; ⟨_, pi_dat p, ai_dat a⟩
theorem qa7n {p : Pos} (hg : Gl X "range") (hm : X.mg "range" = none) (ha : DE X a da) (hs : starEach [a] X.env = [(false, eval a X.env)] := by rfl) : DI X tg (.Call (.Name "range" p) [a] [] pos) (qc9c da) :=
 let ⟨_, p, a⟩ := ha; ⟨_, qe3f hg hm (qa2g p qa5k hs) hs, ai_rng1 a⟩
theorem qa7o : DIf X [] (fun ρ Q => Q true ρ) := ⟨_, pif_nil, fun c O ρ σ H Qd Q R h k => k _ _ _ _ h R .refl⟩
theorem qc0d (h : DT X e dtt) : DIf X [e] dtt := let ⟨_, p, a⟩ := h; ⟨_, pif_one p, a⟩
end
noncomputable def upE (K : PySem.W.Frag) (dt : TDE) : TE := fun σ H Q => ∃ c O ρ Qd, Rel K c O ρ σ H /\ dt ρ Qd /\ (∀ x ρ' O' v H', Qd x ρ' -> Rel K c O' ρ' σ H' -> Pers K (live c O) H (live c O') H' -> AtV K (live c O') σ H' x v -> Q v H')
noncomputable def upT (K : PySem.W.Frag) (dt : TDT) : TT := fun σ H Q => ∃ c O ρ Qd, Rel K c O ρ σ H /\ dt ρ Qd /\ (∀ b ρ' O' H', Qd b ρ' -> Rel K c O' ρ' σ H' -> Pers K (live c O) H (live c O') H' -> Q b H')
noncomputable def upG (K : PySem.W.Frag) (dg : TDG) : TG := fun v σ H Q => ∃ c O ρ x Qd, Rel K c O ρ σ H /\ AtD K H (live c O) x v /\ dg x ρ Qd /\ (∀ O' ρ' σ' , Rel K c O' ρ' σ' H -> Pers K (live c O) H (live c O') H -> Qd ρ' -> Q σ' H)
theorem ad_upE {K : PySem.W.Frag} {dt : TDE} : AdE K (upE K dt) dt := fun c O ρ σ H Qd Q R h k => ⟨c, O, ρ, Qd, R, h, k⟩
theorem ad_upT {K : PySem.W.Frag} {dt : TDT} : AdT K (upT K dt) dt := fun c O ρ σ H Qd Q R h k => ⟨c, O, ρ, Qd, R, h, k⟩
theorem ad_upG {K : PySem.W.Frag} {dg : TDG} : AdG K (upG K dg) dg := fun c O ρ σ H x v Qd Q R a h k => ⟨c, O, ρ, x, Qd, R, a, h, k⟩
theorem DE.up {X : Cx} {e : Expr} {de : TDE} (h : DE X e de) : PE X e (upE X.K de) := fun pins s σ H Q I q => by
 obtain ⟨t, p, a⟩ := h
 obtain ⟨c, O, ρ, Qd, R, q, k⟩ := q
 exact p pins s σ H Q I (a c O ρ σ H Qd Q R q k)
theorem DIf.up {X : Cx} {e : List Expr} {de : TDT} (h : DIf X e de) : PIf X e (upT X.K de) := fun pins s σ H Q I q => by
 obtain ⟨t, p, a⟩ := h
 obtain ⟨c, O, ρ, Qd, R, q, k⟩ := q
 exact p pins s σ H Q I (a c O ρ σ H Qd Q R q k)
theorem DG.up {X : Cx} {e : Expr} {dg : TDG} (h : DG X e dg) : PG X e (upG X.K dg) := fun pins s σ H v u Q I r q => by
 obtain ⟨t, p, a⟩ := h
 obtain ⟨c, O, ρ, x, Qd, R, ax, q, k⟩ := q
 exact p pins s σ H v u Q I r (a c O ρ σ H x v Qd Q R ax q k)
section
variable {X : Cx} {elt tg iter : Expr} {ifs : List Expr} {scope : Scope} {pos : Pos} {own : List Str} {cap : List (Str × Nat)} {di : TDI} {dg : TDG} {dt : TDT} {de : TDE}
theorem qa6v (own : List Str) (cap : List (Str × Nat)) (hc : X.calm = true) (hok : qa7h X scope own cap = true) (hnd : (scope.names.map (·.1)).Nodup) (hi : DI X tg iter di)
  (hg : ∀ fp s2 H2, DG (cxC X scope own cap fp s2 H2) tg dg) (ht : ∀ fp s2 H2, DIf (cxC X scope own cap fp s2 H2) ifs dt) (he : ∀ fp s2 H2, DE (cxC X scope own cap fp s2 H2) elt de)
  (hs : ∀ x, foldedSetIterable iter X.env x = pure x := by intro _; rfl) : DF X (.ListComp elt [⟨tg, iter, ifs, 0⟩] scope pos) (dComp own.length cap di dg dt de) := by
 obtain ⟨ti, pi, ai⟩ := hi
 exact ⟨_, pe_comp hc hok hnd pi (fun a b c => (hg a b c).up) (fun a b c => (ht a b c).up) (fun a b c => (he a b c).up) hs, qd8s rfl ai ad_upG ad_upT ad_upE⟩
theorem qc4l {i : Nat} {y : Str} {py spos : Pos} (hN : X.N.Nodup) (hi' : X.N[i]? = some y) (hy : X.env.scope.names.lookup y = some .local)
  (own : List Str) (cap : List (Str × Nat)) (hc : X.calm = true) (hok : qa7h X scope own cap = true) (hnd : (scope.names.map (·.1)).Nodup) (hi : DI X tg iter di)
  (hg : ∀ fp s2 H2, DG (cxC X scope own cap fp s2 H2) tg dg) (ht : ∀ fp s2 H2, DIf (cxC X scope own cap fp s2 H2) ifs dt) (he : ∀ fp s2 H2, DE (cxC X scope own cap fp s2 H2) elt de)
  (hsw : swapsWith (.ListComp elt [⟨tg, iter, ifs, 0⟩] scope pos) (some (.Name y py)) spos.line X.env = pure true := by rfl)
  (hs : ∀ x, foldedSetIterable iter X.env x = pure x := by intro _; rfl) : DS X (.Assign [.Name y py] (.ListComp elt [⟨tg, iter, ifs, 0⟩] scope pos) spos) (dSetF i (dComp own.length cap di dg dt de)) := by
 obtain ⟨ti, pi, ai⟩ := hi
 exact ⟨_, ps_setC hN hi' hy hc hok hnd pi (fun a b c => (hg a b c).up) (fun a b c => (ht a b c).up) (fun a b c => (he a b c).up) hsw hs, qd8p (qd8s rfl ai ad_upG ad_upT ad_upE)⟩
end
section
variable {K : PySem.W.Frag}
noncomputable def dIs (T : String) (de : TDE) : TDE := fun ρ Q => de ρ fun x ρ1 => need (qa1a ρ1 x) fun d => Q (.d (.bool (isD T d))) ρ1
theorem ad_is {t : TE} {de : TDE} {T : String} (hT : qa9b T = true) (h : AdE K t de) : AdE K (tCB (fun xs H Q => ∃ v S d T, xs = [v, .ty T] /\ AtD K H S d v /\ qa9b T = true /\ Q (.bl (isD T d)) H) (qa7s t (qa7s (tC (.ty T)) tNil))) (dIs T de) := fun c O ρ σ H Qd Q R q k =>
 h c O ρ σ H _ _ R q fun x ρ1 O1 v H1 h1 R1 P1 a1 => by
  obtain ⟨d, e1, h2⟩ := ne h1
  exact ⟨v, Any, d, T, rfl, (R1.top a1 e1).any, hT, k _ _ _ _ _ h2 R1 P1 qb1v⟩
end
theorem qa4r {X : Cx} {e : Expr} {de : TDE} {x : Str} {T : String} {p p2 pos : Pos} (hg : Gl X "isinstance") (hm : X.mg "isinstance" = none) (hg2 : Gl X x) (hm2 : X.mg x = none) (hv : bootBuiltins x = some (.type T)) (hT : qa9b T = true) (he : DE X e de) (hn : x ≠ "__name__" := by decide) (hd : (x == ("__debug__" : Str)) = false := by decide)
  (hs : starEach [e, .Name x p2] X.env = (false, eval e X.env) :: starEach [.Name x p2] X.env := by rfl) : DE X (.Call (.Name "isinstance" p) [e, .Name x p2] [] pos) (dIs T de) := by
 obtain ⟨t, pe, ae⟩ := he
 exact ⟨_, qb1o qe5s hg hm qc7f (qa2g pe (qa2g (pe_ty hg2 hm2 hv hn hd) qa5k) hs) (by decide) (by decide) hs rfl, ad_is hT ae⟩
end L2
end
section
namespace L2
open PySem PySem.Spec PyProof.Rows
noncomputable def fEqA (neg : Bool) : F2 := fun x y => if (qa1o x && qa1o y && scal (toV x) (toV y)) = true then some (.bool (if neg then !decide (toV x = toV y) else decide (toV x = toV y))) else fEq neg x y
section
variable {K : PySem.W.Frag}
theorem qa1d : AdR K (fun x y H Q => rEq x y H Q ∨ rEqD K false x y H Q) (fEqA false) := by
 intro S H x y dx dy z Q f hx hy e k
 unfold fEqA at e
 split at e
 ·rename_i hc
  rw [Bool.and_eq_true, Bool.and_eq_true] at hc
  cases e
  obtain ⟨e1, _⟩ := qb1i (hx.at fun ds z => by subst z; exact absurd hc.1.1 (by simp [qa1o])) hc.1.1
  obtain ⟨e2, _⟩ := qb1i (hy.at fun ds z => by subst z; exact absurd hc.1.2 (by simp [qa1o])) hc.1.2
  rw [e1, e2]
  exact .inl ⟨hc.2, k _ _ (Same.refl _) (qa2n _)⟩
 ·exact .inr (ad_eq S H x y dx dy z Q f hx hy e k)
theorem qc3a : AdR K (fun x y H Q => rNe x y H Q ∨ rEqD K true x y H Q) (fEqA true) := by
 intro S H x y dx dy z Q f hx hy e k
 unfold fEqA at e
 split at e
 ·rename_i hc
  rw [Bool.and_eq_true, Bool.and_eq_true] at hc
  cases e
  obtain ⟨e1, _⟩ := qb1i (hx.at fun ds z => by subst z; exact absurd hc.1.1 (by simp [qa1o])) hc.1.1
  obtain ⟨e2, _⟩ := qb1i (hy.at fun ds z => by subst z; exact absurd hc.1.2 (by simp [qa1o])) hc.1.2
  rw [e1, e2]
  exact .inl ⟨hc.2, k _ _ (Same.refl _) (qa2n _)⟩
 ·exact .inr (ad_eq S H x y dx dy z Q f hx hy e k)
theorem qa1e {X : Cx} (hu : X.A.units + 64 < cLine) : OpR X (compareOp .Eq) (fun x y H Q => rEq x y H Q ∨ rEqD X.K false x y H Q) := op_eq.or (op_eqD hu)
theorem qc3b {X : Cx} (hu : X.A.units + 64 < cLine) : OpR X (compareOp .NotEq) (fun x y H Q => rNe x y H Q ∨ rEqD X.K true x y H Q) := op_ne.or (op_neD hu)
end
theorem qc9h {neg : Bool} {x y : Str} : fEqA neg (.str x) (.str y) = some (.bool (if neg then !decide (x = y) else decide (x = y))) := by
 have e : decide (V.str x = V.str y) = decide (x = y) := by simp
 unfold fEqA
 rw [if_pos (show (qa1o (.str x) && qa1o (.str y) && scal (toV (.str x)) (toV (.str y))) = true from rfl)]
 show some (PyData.bool (if neg = true then !decide (V.str x = V.str y) else decide (V.str x = V.str y))) = _
 rw [e]
theorem qc9i {neg : Bool} {x y : Int} : fEqA neg (.int x) (.int y) = some (.bool (if neg then !decide (x = y) else decide (x = y))) := by
 have e : decide (V.int x = V.int y) = decide (x = y) := by simp
 unfold fEqA
 rw [if_pos (show (qa1o (.int x) && qa1o (.int y) && scal (toV (.int x)) (toV (.int y))) = true from rfl)]
 show some (PyData.bool (if neg = true then !decide (V.int x = V.int y) else decide (V.int x = V.int y))) = _
 rw [e]
theorem qc6o {neg : Bool} {x y : Bool} : fEqA neg (.bool x) (.bool y) = some (.bool (if neg then !decide (x = y) else decide (x = y))) := by
 have e : decide (V.bl x = V.bl y) = decide (x = y) := by simp
 unfold fEqA
 rw [if_pos (show (qa1o (.bool x) && qa1o (.bool y) && scal (toV (.bool x)) (toV (.bool y))) = true from rfl)]
 show some (PyData.bool (if neg = true then !decide (V.bl x = V.bl y) else decide (V.bl x = V.bl y))) = _
 rw [e]
theorem qc9j {neg : Bool} {x y : PyData} (h : (qa1o x && qa1o y) = false) (hx : SeqAt.shaped x = true) (hy : SeqAt.shaped y = true) : fEqA neg x y = some (.bool (if neg then !PyData.eqv x y else PyData.eqv x y)) := by
 unfold fEqA fEq
 rw [h, Bool.false_and, if_neg Bool.false_ne_true, if_pos ⟨hx, hy⟩]
theorem fIx_l {xs : List PyData} {i : Int} : fIx (.list xs) (.int i) = atI xs i := rfl
theorem fIx_t {xs : List PyData} {i : Int} : fIx (.tuple xs) (.int i) = atI xs i := rfl
theorem fAdd_i {i j : Int} : fAdd (.int i) (.int j) = some (.int (i + j)) := rfl
theorem fSub_i {i j : Int} : fSub (.int i) (.int j) = some (.int (i - j)) := rfl
theorem fCmp_i {p : Int -> Int -> Bool} {i j : Int} : fCmp p (.int i) (.int j) = some (.bool (p i j)) := rfl
theorem fLen_l {xs : List PyData} : fLen [.list xs] = some (.int xs.length) := rfl
theorem fLen_t {xs : List PyData} : fLen [.tuple xs] = some (.int xs.length) := rfl
theorem qc9k {xs : List PyData} : fTuple [.list xs] = some (.tuple xs) := rfl
theorem qc9l {xs : List PyData} : fTuple [.tuple xs] = some (.tuple xs) := rfl
theorem qd8t {xs : List PyData} : fList [.list xs] = some xs := rfl
theorem qd8u {xs : List PyData} : fList [.tuple xs] = some xs := rfl
theorem fIn_f {neg : Bool} {x : PyData} {xs : List PyData} (h : (qa1o x && xs.all qa1o) = true) : fIn neg x (.tuple xs) = some (.bool (if neg then !inF x xs else inF x xs)) := by
 show (if qa1o x && xs.all qa1o then some (PyData.bool (if neg then !inF x xs else inF x xs)) else none) = _
 rw [if_pos h]
theorem qc3c {neg : Bool} {x : PyData} {xs : List PyData} (h : (qa1o x && xs.all qa1o) = true) : fIn neg x (.list xs) = some (.bool (if neg then !inF x xs else inF x xs)) := by
 show (if qa1o x && xs.all qa1o then some (PyData.bool (if neg then !inF x xs else inF x xs)) else none) = _
 rw [if_pos h]
theorem qb1w {xs ys : List PyData} (h : xs.length + ys.length <= sizeLine) : fAdd (.list xs) (.list ys) = some (.list (xs ++ ys)) := by
 show (if xs.length + ys.length <= sizeLine then some (PyData.list (xs ++ ys)) else none) = _
 rw [if_pos h]
theorem qb1x {xs ys : List PyData} (h : xs.length + ys.length <= sizeLine) : fAdd (.tuple xs) (.tuple ys) = some (.tuple (xs ++ ys)) := by
 show (if xs.length + ys.length <= sizeLine then some (PyData.tuple (xs ++ ys)) else none) = _
 rw [if_pos h]
theorem fMod_i {i j : Int} (h : 0 < j) : fMod (.int i) (.int j) = some (.int (i % j)) := by
 show (if 0 < j then some (PyData.int (i % j)) else none) = _
 rw [if_pos h]
theorem qa2h {xs : List PyData} {i : Int} {k : PyData -> Prop} (h0 : 0 <= i) (h1 : i < xs.length) (h : ∀ d, d ∈ xs -> xs[i.toNat]? = some d -> k d) : need (atI xs i) k := by
 obtain ⟨x, e1, e2, e3⟩ := atI_in h0 h1
 exact ni e1 (h x e2 e3)
theorem qc6p {α : Type} {xs r : List α} {i : Nat} {x : α} (h : xs.drop i = x :: r) : xs[i]? = some x /\ xs.drop (i + 1) = r := by
 have hi : i < xs.length := by
  by_cases h' : i < xs.length
  ·exact h'
  ·rw [List.drop_eq_nil_of_le (by omega)] at h; cases h
 rw [List.drop_eq_getElem_cons hi] at h
 injection h with h1 h2
 exact ⟨by rw [List.getElem?_eq_getElem hi, h1], h2⟩
theorem qc9m {α : Type} {xs : List α} {i : Nat} (hi : i <= xs.length) (h : xs.drop i = []) : i = xs.length := by
 have := congrArg List.length h
 simp at this
 omega
theorem qa5x {g : TDG} {b : TDS} {D : DEnds} {xs : List PyData} {ρ : Rho} (Pv : Nat -> Rho -> Prop) (h0 : Pv 0 ρ)
  (hs : ∀ (i : Nat) (x : PyData) (ρ : Rho) (N : Rho -> Prop), xs[i]? = some x -> Pv i ρ -> (∀ ρ', Pv (i + 1) ρ' -> N ρ') -> g x ρ fun ρ1 => b { D with nx := N, ct := N, bk := D.nx } ρ1)
  (hd : ∀ ρ, Pv xs.length ρ -> D.nx ρ) : qa7i g b D xs ρ := by
 have key : ∀ (r : List PyData) (i : Nat), i <= xs.length -> xs.drop i = r -> ∀ ρ, Pv i ρ -> qa7i g b D r ρ := fun r => by
  induction r with
  | nil =>
   intro i hi e ρ p
   rw [qc9m hi e] at p
   exact hd ρ p
  | cons x r ih =>
   intro i hi e ρ p
   obtain ⟨e1, e2⟩ := qc6p e
   have hlt : i < xs.length := (List.getElem?_eq_some_iff.mp e1).1
   exact hs i x ρ _ e1 p fun ρ' p' => ih (i + 1) hlt e2 ρ' p'
 exact key xs 0 (Nat.zero_le _) (by simp) ρ h0
theorem qa9e {g : TDG} {tt : TDT} {te : TDE} {Q : List PyData -> Rho -> Prop} {xs : List PyData} {ρ : Rho} (Pv : Nat -> Rho -> List PyData -> Prop) (h0 : Pv 0 ρ [])
  (hs : ∀ (i : Nat) (x : PyData) (ρ : Rho) (acc : List PyData) (N : Rho -> List PyData -> Prop), xs[i]? = some x -> Pv i ρ acc -> (∀ ρ' acc', Pv (i + 1) ρ' acc' -> N ρ' acc') ->
   g x ρ fun ρ1 => tt ρ1 fun b ρ2 => if b = true then te ρ2 fun y ρ3 => fz ρ3 y fun z ρ4 => N ρ4 (acc ++ [z]) else N ρ2 acc)
  (hd : ∀ ρ acc, Pv xs.length ρ acc -> Q acc ρ) : qa2o g tt te Q xs ρ [] := by
 have key : ∀ (r : List PyData) (i : Nat), i <= xs.length -> xs.drop i = r -> ∀ ρ acc, Pv i ρ acc -> qa2o g tt te Q r ρ acc := fun r => by
  induction r with
  | nil =>
   intro i hi e ρ acc p
   rw [qc9m hi e] at p
   exact hd ρ acc p
  | cons x r ih =>
   intro i hi e ρ acc p
   obtain ⟨e1, e2⟩ := qc6p e
   have hlt : i < xs.length := (List.getElem?_eq_some_iff.mp e1).1
   exact hs i x ρ acc _ e1 p fun ρ' acc' p' => ih (i + 1) hlt e2 ρ' acc' p'
 exact key xs 0 (Nat.zero_le _) (by simp) ρ [] h0
end L2
end
section
namespace L2
open PySem PySem.Spec PyProof.Rows
noncomputable def later (u : TDS) (D : DEnds) (ρ : Rho) : Prop := u D ρ
theorem qd8v {u : TDS} {D : DEnds} {ρ : Rho} (h : u D ρ) : later u D ρ := h
section
variable {t u b : TDS} {c tt : TDT} {D : DEnds} {ρ ρi : Rho} {i j n : Nat} {da db dc de te : TDE} {df : TDF} {daa : TDA} {f f' : F2} {fl : F2L} {fc : FC} {fcl : FCL} {T : String} {dg g : TDG} {dgs : TDGs} {di : TDI} {x : PyData} {y : DV} {xs : List PyData} {ys : List DV} {fs : List Bool} {sp : DSp}
 {Q : DV -> Rho -> Prop} {QF : List PyData -> Rho -> Prop} {QB : Bool -> Rho -> Prop} {QA : List DV -> Rho -> Prop} {QR : RV -> Rho -> Prop} {QD : PyData -> Rho -> Prop} {N : Rho -> Prop} {QL : L -> Rho -> Prop} {QLs : List L -> Rho -> Prop}
theorem dSeq_a : dSeq t u D ρ = t { D with nx := later u D } ρ := rfl
theorem qd8w : dNext D ρ = D.nx ρ := rfl
theorem qc9n : dBreak D ρ = D.bk ρ := rfl
theorem qd8x : dCont D ρ = D.ct ρ := rfl
theorem dIf_a : dIf c t u D ρ = c ρ fun b ρ1 => if b = true then t D ρ1 else u D ρ1 := rfl
theorem qd8y : dDrop de D ρ = de ρ fun _ ρ1 => D.nx ρ1 := rfl
theorem dRet_a : dRet de D ρ = de ρ fun x ρ1 => fz ρ1 x fun y ρ2 => D.rt (.d y) ρ2 := rfl
theorem qd8z : dRetF df D ρ = df ρ fun xs ρ1 => D.rt (.new xs) ρ1 := rfl
theorem qd9a : dRetN D ρ = D.rt (.d .none) ρ := rfl
noncomputable def ownAtJ : Option L -> Option (List PyData)
 | some (.own xs) => some xs
 | _ => none
theorem qc9o : ownAtJ (some (.own xs)) = some xs := rfl
theorem qc6q : dRetOwn i D ρ = need (ownAtJ (ρ[i]?.join)) fun xs => D.rt (.new xs) (ρ.set i none) := rfl
theorem dSet_a : dSet i de D ρ = de ρ fun x ρ1 => fz ρ1 x fun y ρ2 => i < ρ2.length /\ D.nx (ρ2.set i (some (.d y))) := rfl
theorem qd9b : dSetF i df D ρ = df ρ fun xs ρ1 => i < ρ1.length /\ D.nx (ρ1.set i (some (.own xs))) := rfl
theorem dAsg_a : dAsg de dg D ρ = de ρ fun x ρ1 => fz ρ1 x fun y ρ2 => dg y ρ2 D.nx := rfl
theorem dFor_a : dFor di dg b D ρ = di ρ fun xs ρ1 => qa7i dg b D xs ρ1 := rfl
theorem dVar_a : dVar i ρ Q = need (ρ[i]?.join) fun _ => Q (.sl i) ρ := rfl
theorem dC_a : dC x ρ Q = Q (.d x) ρ := rfl
theorem dOp_a : dOp f da db ρ Q = da ρ fun x ρ1 => db ρ1 fun y ρ2 => need (qa1a ρ2 x) fun dx => need (qa1a ρ2 y) fun dy => need (f dx dy) fun z => Q (.d z) ρ2 := rfl
theorem dOpF_a : dOpF fl da db ρ QF = da ρ fun x ρ1 => db ρ1 fun y ρ2 => need (qa1a ρ2 x) fun dx => need (qa1a ρ2 y) fun dy => need (fl dx dy) fun z => QF z ρ2 := rfl
theorem dCB_a : dCB fc daa ρ Q = daa ρ fun xs ρ1 => need (qa6a ρ1 xs) fun ds => need (fc ds) fun z => Q (.d z) ρ1 := rfl
theorem dCBF_a : dCBF fcl daa ρ QF = daa ρ fun xs ρ1 => need (qa6a ρ1 xs) fun ds => need (fcl ds) fun z => QF z ρ1 := rfl
theorem dTup_a : dTup daa ρ Q = daa ρ fun xs ρ1 => fzs ρ1 xs fun ys ρ2 => ys.length <= 1000000 /\ Q (.d (.tuple ys)) ρ2 := rfl
theorem dLst_a : dLst daa ρ QF = daa ρ fun xs ρ1 => fzs ρ1 xs fun ys ρ2 => ys.length <= 1000000 /\ QF ys ρ2 := rfl
theorem dFz_a : dFz df ρ Q = df ρ fun xs ρ1 => Q (.d (.list xs)) ρ1 := rfl
theorem dNil_a : dNil ρ QA = QA [] ρ := rfl
theorem qd9c : qa7w de daa ρ QA = de ρ fun x ρ1 => daa ρ1 fun xs ρ2 => QA (x :: xs) ρ2 := rfl
theorem dB_a : dB de ρ QB = de ρ fun x ρ1 => need (qa1a ρ1 x) fun d => need (asB d) fun b => QB b ρ1 := rfl
theorem dTru_a : dTru de ρ QB = de ρ fun x ρ1 => need (qa1a ρ1 x) fun d => need (tru d) fun b => QB b ρ1 := rfl
theorem dAnd_a {v w : TDT} : dAnd v w ρ QB = v ρ fun b ρ1 => if b = true then w ρ1 QB else QB false ρ1 := rfl
theorem dOr_a {v w : TDT} : dOr v w ρ QB = v ρ fun b ρ1 => if b = true then QB true ρ1 else w ρ1 QB := rfl
theorem dNot_a {v : TDT} : dNot v ρ QB = v ρ fun b ρ1 => QB (!b) ρ1 := rfl
theorem dIfE_a : dIfE c da db ρ Q = c ρ fun k ρ1 => if k = true then da ρ1 Q else db ρ1 Q := rfl
theorem qd9d : dAndV da db ρ Q = da ρ fun x ρ1 => need (qa1a ρ1 x) fun d => need (asB d) fun k => if k = true then db ρ1 Q else Q (.d (.bool false)) ρ1 := rfl
theorem dOrV_a : dOrV da db ρ Q = da ρ fun x ρ1 => need (qa1a ρ1 x) fun d => need (asB d) fun k => if k = true then Q (.d (.bool true)) ρ1 else db ρ1 Q := rfl
theorem qd9e : dNotV da ρ Q = da ρ fun x ρ1 => need (qa1a ρ1 x) fun d => need (asB d) fun k => Q (.d (.bool (!k))) ρ1 := rfl
theorem qc9p : qc2x f f' da db dc ρ Q = da ρ fun x ρ1 => db ρ1 fun y ρ2 => need (qa1a ρ2 x) fun dx => need (qa1a ρ2 y) fun dy => need (f dx dy) fun z => need (asB z) fun k =>
 if k = true then dc ρ2 fun w ρ3 => need (qa1a ρ3 y) fun dy => need (qa1a ρ3 w) fun dw => need (f' dy dw) fun z' => Q (.d z') ρ3 else Q (.d (.bool false)) ρ2 := rfl
theorem dIs_a : dIs T de ρ Q = de ρ fun x ρ1 => need (qa1a ρ1 x) fun d => Q (.d (.bool (isD T d))) ρ1 := rfl
noncomputable def qa8a : Option L -> Option (OK × List PyData)
 | some (.own xs) => some (.o, xs)
 | some (.bor xs) => some (.b, xs)
 | _ => none
theorem ownB_j : ownB ρ i = qa8a (ρ[i]?.join) := rfl
theorem qd9f : qa8a (some (.own xs)) = some (.o, xs) := rfl
theorem qd9g : qa8a (some (.bor xs)) = some (.b, xs) := rfl
theorem okL_o : okL .o xs = .own xs := rfl
theorem okL_b : okL .b xs = .bor xs := rfl
theorem qc6r : qc4i i de ρ Q = need (qa8a (ρ[i]?.join)) fun _ => de ρ fun x ρ1 => fz ρ1 x fun y ρ2 => need (qa8a (ρ2[i]?.join)) fun o => o.2.length <= 1000000 /\ Q (.d .none) (ρ2.set i (some (okL o.1 (o.2 ++ [y])))) := rfl
theorem dPop_a : dPop i ρ Q = need (qa8a (ρ[i]?.join)) fun o => need o.2.getLast? fun y => Q (.d y) (ρ.set i (some (okL o.1 o.2.dropLast))) := rfl
theorem qc9q : qb8j i di' de D ρ = de ρ fun x ρ1 => fz ρ1 x fun y ρ2 => need (qa8a (ρ2[i]?.join)) fun _ => di' ρ2 fun z ρ3 => need (qa1a ρ3 z) fun dz => need (qb8j.asI dz) fun n => need (qa8a (ρ3[i]?.join)) fun o => need (ixN o.2.length n) fun j => D.nx (ρ3.set i (some (okL o.1 (o.2.set j y)))) := rfl
theorem asI2_i {n : Int} : qb8j.asI (.int n) = some n := rfl
theorem asI_i {n : Int} : asI (.int n) = some n := rfl
theorem qc9r : qc8y i x ρ N = (i < ρ.length /\ N (ρ.set i (some (.d x)))) := rfl
theorem qd9h : dgTup n dgs (.tuple xs) ρ N = (xs.length = n /\ dgs xs ρ N) := rfl
theorem qc9s : qc8z dg dgs (x :: xs) ρ N = dg x ρ fun ρ1 => dgs xs ρ1 N := rfl
theorem qd9i : dgNil [] ρ N = N ρ := by unfold dgNil; simp
theorem qd9j : diDat de ρ QF = de ρ fun x ρ1 => fz ρ1 x fun y ρ2 => need (seqD y) fun xs => QF xs ρ2 := rfl
theorem qc9t : qc9c de ρ QF = de ρ fun x ρ1 => need (qa1a ρ1 x) fun d => need (asI d) fun j => sm62 j /\ QF (rngD 0 j.toNat) ρ1 := rfl
theorem qc9u : qc2y fs sp daa ρ Q = daa ρ fun xs ρ1 => pass fs xs ρ1 fun ls ρ2 => ((flOf 0 fs xs).map (·.2)).Nodup /\ sp ls fun r outs => match r with
 | .d x => Q (.d x) (fills outs (flOf 0 fs xs) ρ2)
 | .new ys => Q (.d (.list ys)) (fills outs (flOf 0 fs xs) ρ2) := rfl
theorem qc9v : dCallF fs sp daa ρ QF = daa ρ fun xs ρ1 => pass fs xs ρ1 fun ls ρ2 => ((flOf 0 fs xs).map (·.2)).Nodup /\ sp ls fun r outs => match r with
 | .d _ => False
 | .new ys => QF ys (fills outs (flOf 0 fs xs) ρ2) := rfl
theorem pass_n : pass [] [] ρ QLs = QLs [] ρ := rfl
theorem pass_d {x : PyData} : pass (false :: fs) (.d x :: ys) ρ QLs = fzL ρ (.d x) fun l ρ1 => pass fs ys ρ1 fun ls ρ2 => QLs (l :: ls) ρ2 := rfl
theorem pass_s {i : Nat} : pass (false :: fs) (.sl i :: ys) ρ QLs = fzL ρ (.sl i) fun l ρ1 => pass fs ys ρ1 fun ls ρ2 => QLs (l :: ls) ρ2 := rfl
noncomputable def ioJ : Option L -> Option L
 | some l => if isOw l then some (lend l) else none
 | none => none
theorem pass_t : pass (true :: fs) (.sl i :: ys) ρ QLs = pass fs ys ρ fun ls ρ2 => need (ioJ (ρ2[i]?.join)) fun l => QLs (l :: ls) ρ2 := rfl
theorem ioJ_o : ioJ (some (.own xs)) = some (.bor xs) := rfl
theorem ioJ_b : ioJ (some (.bor xs)) = some (.bor xs) := rfl
theorem ioJ_t : ioJ (some (.tape n)) = some (.tape n) := rfl
noncomputable def fzJ (l : Option L) (ρ : Rho) (i : Nat) (Q : PyData -> Rho -> Prop) : Prop := match l with
 | some (.d y) => Q y ρ
 | some (.own xs) => Q (.list xs) (ρ.set i (some (.d (.list xs))))
 | _ => False
theorem fz_d : fz ρ (.d x) QD = QD x ρ := rfl
theorem fz_sl : fz ρ (.sl i) QD = fzJ (ρ[i]?.join) ρ i QD := rfl
theorem fzJ_d : fzJ (some (.d x)) ρ i QD = QD x ρ := rfl
theorem fzJ_o : fzJ (some (.own xs)) ρ i QD = QD (.list xs) (ρ.set i (some (.d (.list xs)))) := rfl
noncomputable def fzLJ (l : Option L) (ρ : Rho) (i : Nat) (Q : L -> Rho -> Prop) : Prop := match l with
 | some (.d y) => Q (.d y) ρ
 | some (.own xs) => Q (.d (.list xs)) (ρ.set i (some (.d (.list xs))))
 | some .scr => Q .scr ρ
 | _ => False
theorem fzL_d : fzL ρ (.d x) QL = QL (.d x) ρ := rfl
theorem fzL_sl : fzL ρ (.sl i) QL = fzLJ (ρ[i]?.join) ρ i QL := rfl
theorem fzLJ_d : fzLJ (some (.d x)) ρ i QL = QL (.d x) ρ := rfl
theorem fzLJ_o : fzLJ (some (.own xs)) ρ i QL = QL (.d (.list xs)) (ρ.set i (some (.d (.list xs)))) := rfl
theorem fzLJ_s : fzLJ (some .scr) ρ i QL = QL .scr ρ := rfl
theorem fzs_n : fzs ρ [] QF = QF [] ρ := rfl
theorem fzs_c : fzs ρ (y :: ys) QF = fz ρ y fun z ρ1 => fzs ρ1 ys fun zs ρ2 => QF (z :: zs) ρ2 := rfl
theorem flOf_d {x : PyData} : flOf n (false :: fs) (.d x :: ys) = flOf (n + 1) fs ys := rfl
theorem flOf_s {i : Nat} : flOf n (false :: fs) (.sl i :: ys) = flOf (n + 1) fs ys := rfl
theorem flOf_0 : flOf n [] [] = [] := rfl
theorem flOf_t : flOf n (true :: fs) (.sl i :: ys) = (n, i) :: flOf (n + 1) fs ys := rfl
noncomputable def qb1y (l : Option L) (ρi : Rho) (j i : Nat) (ρ : Rho) : Rho := match l with
 | some l0 => if isOw l0 then ρ.set i (qa7y ρi l0 j) else ρ
 | none => ρ
theorem qd9k : fills ρi [] ρ = ρ := rfl
theorem qd9l {r : List (Nat × Nat)} : fills ρi ((j, i) :: r) ρ = fills ρi r (qb1y (ρ[i]?.join) ρi j i ρ) := rfl
theorem qc9w : qb1y (some (.own xs)) ρi j i ρ = ρ.set i ((ρi[j]?.join).bind (qa7x (.own xs))) := rfl
theorem qc9x : qb1y (some (.bor xs)) ρi j i ρ = ρ.set i ((ρi[j]?.join).bind (qa7x (.bor xs))) := rfl
theorem qc9y : qb1y (some (.tape n)) ρi j i ρ = ρ.set i ((ρi[j]?.join).bind (qa7x (.tape n))) := rfl
theorem qc9z : qb1y (some (.d x)) ρi j i ρ = ρ := rfl
theorem qd0a : qb1y (some .scr) ρi j i ρ = ρ := rfl
theorem qd0b : qb1y none ρi j i ρ = ρ := rfl
theorem qd9m : qa7x (.own xs) (.bor x') = some (.own x') := rfl
theorem qd9n : qa7x (.bor xs) (.bor x') = some (.bor x') := rfl
theorem qd9o {m : Nat} : qa7x (.tape n) (.tape m) = some (.tape m) := rfl
theorem lend_o : lend (.own xs) = .bor xs := rfl
theorem lend_b : lend (.bor xs) = .bor xs := rfl
theorem lend_t : lend (.tape n) = .tape n := rfl
theorem lend_d : lend (.d x) = .d x := rfl
theorem lend_s : lend .scr = .scr := rfl
theorem qd9p {cap : List (Str × Nat)} : dComp n cap di g tt te ρ QF = di ρ fun xs ρ1 => xs.length <= 1000000 /\ (cap.map (·.2)).Nodup /\ qa2o g tt te (fun acc ρ' => QF acc (fills ρ' (flC n cap) ρ1)) xs (capR n cap ρ1) [] := rfl
theorem flC_n : flC n [] = [] := rfl
theorem flC_c {p : Str × Nat} {r : List (Str × Nat)} : flC n (p :: r) = (n, p.2) :: flC (n + 1) r := rfl
theorem capR_a {cap : List (Str × Nat)} : capR n cap ρ = List.replicate n none ++ cap.map fun p => (ρ[p.2]?.join).map lend := rfl
theorem qd9q : qa1a ρ (.d x) = some x := rfl
theorem qd0c : qa1a ρ (.sl i) = (ρ[i]?.join).bind qb1u := rfl
theorem qd0d : qb1u (.d x) = some x := rfl
theorem qd0e : qb1u (.own xs) = some (.list xs) := rfl
theorem qd0f : qb1u (.bor xs) = some (.list xs) := rfl
theorem qd0g : qa6a ρ [] = some [] := rfl
theorem qd0h : qa6a ρ (y :: ys) = (qa1a ρ y).bind fun z => (qa6a ρ ys).map (z :: ·) := rfl
theorem asB_b {b : Bool} : asB (.bool b) = some b := rfl
theorem tru_b {b : Bool} : tru (.bool b) = some b := rfl
theorem tru_n : tru .none = some false := rfl
theorem tru_i {i : Int} : tru (.int i) = some (i != 0) := rfl
theorem tru_l : tru (.list xs) = some (!xs.isEmpty) := rfl
theorem tru_t : tru (.tuple xs) = some (!xs.isEmpty) := rfl
theorem seqD_l : seqD (.list xs) = some xs := rfl
theorem seqD_t : seqD (.tuple xs) = some xs := rfl
theorem mask_n : mask [] ρ = [] := rfl
theorem mask_d {ls : List L} {l : Option L} : mask (.d x :: ls) (l :: ρ) = none :: mask ls ρ := rfl
theorem mask_s {ls : List L} {l : Option L} : mask (.scr :: ls) (l :: ρ) = none :: mask ls ρ := rfl
theorem mask_t {ls : List L} {l : Option L} : mask (.tape n :: ls) (l :: ρ) = l :: mask ls ρ := rfl
theorem mask_b {ls : List L} {l : Option L} : mask (.bor xs :: ls) (l :: ρ) = l :: mask ls ρ := rfl
end
end L2
namespace L2
open PySem
theorem qa9f {g : TDG} {tt : TDT} {te : TDE} {Q : List PyData -> Rho -> Prop} {xs : List PyData} {ρ : Rho} (Sh : Rho -> Prop) (fm : PyData -> Option PyData) (h0 : Sh ρ)
  (hs : ∀ (x : PyData) (ρ : Rho) (N : Rho -> Option PyData -> Prop), x ∈ xs -> Sh ρ -> (∀ ρ', Sh ρ' -> N ρ' (fm x)) -> g x ρ fun ρ1 => tt ρ1 fun b ρ2 => if b = true then te ρ2 fun y ρ3 => fz ρ3 y fun z ρ4 => N ρ4 (some z) else N ρ2 none)
  (hd : ∀ ρ, Sh ρ -> Q (xs.filterMap fm) ρ) : qa2o g tt te Q xs ρ [] := by
 have key : ∀ (r : List PyData) (acc : List PyData) (ρ : Rho), (∀ x ∈ r, x ∈ xs) -> Sh ρ -> (∀ ρ, Sh ρ -> Q (acc ++ r.filterMap fm) ρ) -> qa2o g tt te Q r ρ acc := fun r => by
  induction r with
  | nil => intro acc ρ _ h hq; have := hq ρ h; show Q acc ρ; simpa using this
  | cons x r ih =>
   intro acc ρ hm h hq
   have step := hs x ρ (fun ρ' o => match o with | some z => qa2o g tt te Q r ρ' (acc ++ [z]) | none => qa2o g tt te Q r ρ' acc) (hm x List.mem_cons_self) h fun ρ' h' => ?_
   ·exact step
   ·cases e : fm x with
    | none =>
     refine ih acc ρ' (fun y hy => hm y (List.mem_cons_of_mem _ hy)) h' fun ρ2 h2 => ?_
     have := hq ρ2 h2
     rwa [List.filterMap_cons_none e] at this
    | some z =>
     refine ih (acc ++ [z]) ρ' (fun y hy => hm y (List.mem_cons_of_mem _ hy)) h' fun ρ2 h2 => ?_
     have := hq ρ2 h2
     rw [List.filterMap_cons_some e] at this
     simpa using this
 exact key xs [] ρ (fun _ h => h) h0 fun ρ h => by simpa using hd ρ h
theorem qa0t {c A B : Prop} [Decidable c] (h1 : c -> A) (h2 : ¬ c -> B) : if decide c = true then A else B := by
 by_cases h : c
 ·rw [if_pos (decide_eq_true h)]; exact h1 h
 ·rw [if_neg (by simpa using h)]; exact h2 h
theorem ite_b {b : Bool} {A B : Prop} (h1 : b = true -> A) (h2 : b = false -> B) : if b = true then A else B := by
 cases b
 ·rw [if_neg Bool.false_ne_true]; exact h2 rfl
 ·rw [if_pos rfl]; exact h1 rfl
end L2
namespace L2
theorem ite_or {a b A B : Prop} [Decidable a] [Decidable b] (h1 : a ∨ b -> A) (h2 : ¬ a -> ¬ b -> B) : if decide a = true then A else if decide b = true then A else B :=
 qa0t (fun c => h1 (.inl c)) fun c => qa0t (fun c' => h1 (.inr c')) fun c' => h2 c c'
theorem qd9r {a b A B : Prop} [Decidable a] [Decidable b] (h1 : a -> b -> A) (h2 : ¬ (a /\ b) -> B) : if decide a = true then (if decide b = true then A else B) else B :=
 qa0t (fun c => qa0t (fun c' => h1 c c') fun c' => h2 fun z => c' z.2) fun c => h2 fun z => c z.1
end L2
end
section
namespace L2
open PySem PySem.Spec PyProof.Rows
noncomputable abbrev TDO := Rho -> (Option Int -> Rho -> Prop) -> Prop
section
variable {K : PySem.W.Frag} {c : Rc} {O : Own} {ρ : Rho} {σ : St} {H H' : Hp} {S S' : Addr -> Prop}
noncomputable def AdO (K : PySem.W.Frag) (t : TO) (dt : TDO) : Prop := ∀ (c : Rc) (O : Own) (ρ : Rho) (σ : St) (H : Hp) (Qd : Option Int -> Rho -> Prop) (Q : Option Int -> Hp -> Prop), Rel K c O ρ σ H -> dt ρ Qd ->
 (∀ o ρ' O' H', Qd o ρ' -> Rel K c O' ρ' σ H' -> Pers K (live c O) H (live c O') H' -> Q o H') -> t σ H Q
noncomputable def qd0i : TDO := fun ρ Q => Q none ρ
noncomputable def qd0j (de : TDE) : TDO := fun ρ Q => de ρ fun x ρ1 => need (qa1a ρ1 x) fun d => need (asI d) fun i => Q (some i) ρ1
theorem ao_none : AdO K qd8e qd0i := fun c O ρ σ H Qd Q R h k => k _ _ _ _ h R .refl
theorem ao_some {t : TE} {de : TDE} (h : AdE K t de) : AdO K (tPart t) (qd0j de) := fun c O ρ σ H Qd Q R q k =>
 h c O ρ σ H _ _ R q fun x ρ1 O1 v H1 h1 R1 P1 a1 => by
  obtain ⟨d, e1, h1⟩ := ne h1
  obtain ⟨i, e2, h2⟩ := ne h1
  exact ⟨i, qc9b (R1.top a1 e1) e2, k _ _ _ _ h2 R1 P1⟩
noncomputable def cutD (xs : List PyData) (lo hi : Option Int) : List PyData := (xs.drop (HT.sIx xs.length 0 lo)).take (HT.sIx xs.length xs.length hi - HT.sIx xs.length 0 lo)
theorem qa0e.cut {ds : List PyData} {vs : List V} (h : qa0e K H S ds vs) (lo hi : Option Int) : qa0e K H S (cutD ds lo hi) (cutV vs lo hi) := by
 unfold cutD cutV
 rw [h.length]
 exact (h.drop _).take _
noncomputable abbrev FSl := PyData -> Option Int -> Option Int -> Option PyData
noncomputable def dSl (f : FSl) (de : TDE) (dl dh : TDO) : TDE := fun ρ Q => de ρ fun x ρ1 => dl ρ1 fun lo ρ2 => dh ρ2 fun hi ρ3 => need (qa1a ρ3 x) fun d => need (f d lo hi) fun z => Q (.d z) ρ3
noncomputable def AdSl (K : PySem.W.Frag) (r : V -> Option Int -> Option Int -> Hp -> VK -> Prop) (f : FSl) : Prop := ∀ (S : Addr -> Prop) (H : Hp) (x : V) (d z : PyData) (lo hi : Option Int) (Q : VK), Frs S H -> AtT K H S d x -> f d lo hi = some z -> (∀ v H', Same H H' -> AtD K H' S z v -> Q v H') -> r x lo hi H Q
theorem ad_sl {r : V -> Option Int -> Option Int -> Hp -> VK -> Prop} {f : FSl} {te : TE} {tl th : TO} {de : TDE} {dl dh : TDO} (hr : AdSl K r f) (he : AdE K te de) (hl : AdO K tl dl) (hh : AdO K th dh) : AdE K (tSl r te tl th) (dSl f de dl dh) := by
 intro c O ρ σ H Qd Q R h k
 refine he c O ρ σ H _ _ R h fun x ρ1 O1 v H1 h1 R1 P1 a1 => ?_
 refine hl c O1 ρ1 σ H1 _ _ R1 h1 fun lo ρ2 O2 H2 h2 R2 P2 => ?_
 refine hh c O2 ρ2 σ H2 _ _ R2 h2 fun hi ρ3 O3 H3 h3 R3 P3 => ?_
 obtain ⟨d, e1, h3⟩ := ne h3
 obtain ⟨z, e2, h4⟩ := ne h3
 refine hr (live c O3) H3 v d z lo hi Q R3.frsLive (R3.top ((a1.pers P2).pers P3) e1) e2 fun w H4 s4 a4 => ?_
 exact k _ _ _ _ _ h4 (R3.grow s4) (((P1.trans P2).trans P3).trans (.same s4)) a4
noncomputable def Tab (K : PySem.W.Frag) (w : World) (mg : Str -> Option Value) (x : Str) (tab : List (Str × PyData)) : Prop := ∃ (a : Addr) (kvs : List (Str × V)), mg x = some (.ref a) /\ KDict K w a kvs /\ ∀ z d, tab.lookup z = some d -> ∃ v, kvs.lookup z = some v /\ ∀ (S : Addr -> Prop) (H : Hp), AtD K H S d v
noncomputable def fTab (tab : List (Str × PyData)) : PyData -> Option PyData
 | .str x => tab.lookup x
 | _ => none
noncomputable def dTab (tab : List (Str × PyData)) (de : TDE) : TDE := fun ρ Q => de ρ fun x ρ1 => need (qa1a ρ1 x) fun d => need (fTab tab d) fun z => Q (.d z) ρ1
theorem ad_tab {w : World} {a : Addr} {kvs : List (Str × V)} {tab : List (Str × PyData)} {t : TE} {de : TDE} (hD : KDict K w a kvs) (hT : ∀ z d, tab.lookup z = some d -> ∃ v, kvs.lookup z = some v /\ ∀ (S : Addr -> Prop) (H : Hp), AtD K H S d v) (h : AdE K t de) : AdE K (tOp (rIxK K w) (tC (.ref a)) t) (dTab tab de) := fun c O ρ σ H Qd Q R q k =>
 h c O ρ σ H _ _ R q fun x ρ1 O1 v H1 h1 R1 P1 a1 => by
  obtain ⟨d, e1, h1⟩ := ne h1
  obtain ⟨z, e2, h2⟩ := ne h1
  have a2 := R1.top a1 e1
  cases d with
  | str y =>
   obtain ⟨u, e3, e4⟩ := hT y z e2
   exact ⟨a, kvs, y, u, rfl, hD, a2.str, e3, k _ _ _ _ _ h2 R1 P1 (e4 _ _)⟩
  | _ => cases e2
noncomputable def diRev (de : TDE) : TDI := fun ρ Q => de ρ fun x ρ1 => need (qa1a ρ1 x) fun d => need (asT d) fun xs => Q xs.reverse ρ1
 where asT : PyData -> Option (List PyData)
  | .tuple xs => some xs
  | _ => none
theorem qe1c {a : Addr} {vs : List V} {xs : List PyData} (h1 : SqT K H a vs) (h2 : qa0e K H S xs vs) : qb4n K S H (Itrv K a vs.length) xs.reverse := fun S' H' P => by
 obtain ⟨b, ws, e, h3, h4⟩ := qa5z (P _ _ (qa6d h1 h2))
 cases e
 have hl : ws.length = vs.length := by rw [h4.length, h2.length]
 refine ⟨fun i x e => ?_, ?_⟩
 ·obtain ⟨w, e1, e2⟩ := h4.reverse.get e
  refine ⟨⟨ws, w, h3, hl, e1⟩, fun v H'' y => ?_⟩
  obtain ⟨rfl, y⟩ := y
  have e3 := y ws h3
  rw [e1] at e3; cases e3
  exact ⟨Same.refl _, e2⟩
 ·show vs.length = xs.reverse.length
  rw [List.length_reverse, h2.length]
theorem ai_rev {t : TE} {de : TDE} (h : AdE K t de) : AdI K (iRev K t) (diRev de) := fun c O ρ σ H Qd Q R q k =>
 h c O ρ σ H _ _ R q fun x ρ1 O1 v H1 h1 R1 P1 a1 => by
  obtain ⟨d, e1, h1⟩ := ne h1
  obtain ⟨xs, e2, h2⟩ := ne h1
  have a2 := R1.top a1 e1
  cases d with
  | tuple ys =>
   cases e2
   obtain ⟨a, vs, rfl, h3, h4⟩ := a2.tup
   exact ⟨a, vs, rfl, h3, k _ _ _ _ _ h2 R1 P1 (qe1c h3 h4)⟩
  | _ => cases e2
theorem atV_int {i : Int} : AtV K S σ H (.d (.int i)) (.int i) := (qa3t i : AtD K H S (.int i) (.int i))
noncomputable def dNeg (de : TDE) : TDE := fun ρ Q => de ρ fun x ρ1 => need (qa1a ρ1 x) fun d => need (asI d) fun i => Q (.d (.int (-i))) ρ1
theorem ad_neg {t : TE} {de : TDE} (h : AdE K t de) : AdE K (tUn (rU fun i => .int (-i)) t) (dNeg de) := fun c O ρ σ H Qd Q R q k =>
 h c O ρ σ H _ _ R q fun x ρ1 O1 v H1 h1 R1 P1 a1 => by
  obtain ⟨d, e1, h1⟩ := ne h1
  obtain ⟨i, e2, h2⟩ := ne h1
  exact ⟨i, qc9b (R1.top a1 e1) e2, k _ _ _ _ _ h2 R1 P1 atV_int⟩
end
section
variable {X : Cx} {e a b : Expr} {de da db : TDE} {lo hi : Option Expr} {dl dh : TDO} {tg : Expr} {pos p2 : Pos}
noncomputable def DO (X : Cx) (e : Option Expr) (dt : TDO) : Prop := ∃ t, PO X e t /\ AdO X.K t dt
theorem qa4n : DO X none qd0i := ⟨_, po_none, ao_none⟩
theorem qa4o (h : DE X e de) : DO X (some e) (qd0j de) := let ⟨_, p, a⟩ := h; ⟨_, po_some p, ao_some a⟩
theorem qa3w {r : V -> Option Int -> Option Int -> Hp -> VK -> Prop} {f : FSl} (hr : SlR X r) (ha : AdSl X.K r f) (he : DE X e de) (hl : DO X lo dl) (hu : DO X hi dh) : DE X (.Subscript e (.Slice lo hi none p2) pos) (dSl f de dl dh) :=
 let ⟨_, p, a⟩ := he; let ⟨_, p', a'⟩ := hl; let ⟨_, p3, a3⟩ := hu; ⟨_, qe5n hr p p' p3, ad_sl ha a a' a3⟩
theorem de_tab {x : Str} {p : Pos} {tab : List (Str × PyData)} (hT : Tab X.K X.w X.mg x tab) (hg : Gl X x) (he : DE X b de) (hs : qc4g b) (hd : (x == ("__debug__" : Str)) = false := by decide) : DE X (.Subscript (.Name x p) b pos) (dTab tab de) := by
 obtain ⟨a, kvs, hm, hD, hv⟩ := hT
 obtain ⟨t, pt, at_⟩ := he
 exact ⟨_, pe_ix qe5u (qc4e hg hm (v := .ref a) rfl hd) pt hs, ad_tab hD hv at_⟩
theorem di_rev {p : Pos} (hg : Gl X "reversed") (hm : X.mg "reversed" = none) (hl : DE X e de) (hs : starEach [e] X.env = [(false, eval e X.env)] := by rfl) : DI X tg (.Call (.Name "reversed" p) [e] [] pos) (diRev de) :=
 let ⟨_, p, a⟩ := hl; ⟨_, pi_rev hg hm p hs, ai_rev a⟩
theorem de_neg (h : DE X a da) : DE X (.UnaryOp .USub a pos) (dNeg da) := let ⟨_, p, a⟩ := h; ⟨_, pe_un un_neg p, ad_neg a⟩
end
section
variable {ρ : Rho} {de : TDE} {daa : TDA} {dl dh : TDO} {f : FSl} {tab : List (Str × PyData)} {Q : DV -> Rho -> Prop} {QF : List PyData -> Rho -> Prop} {QO : Option Int -> Rho -> Prop} {xs : List PyData} {x : Str} {i j : Int}
theorem dSl_a : dSl f de dl dh ρ Q = de ρ fun x ρ1 => dl ρ1 fun lo ρ2 => dh ρ2 fun hi ρ3 => need (qa1a ρ3 x) fun d => need (f d lo hi) fun z => Q (.d z) ρ3 := rfl
theorem qd0k : qd0i ρ QO = QO none ρ := rfl
theorem qd0l : qd0j de ρ QO = de ρ fun x ρ1 => need (qa1a ρ1 x) fun d => need (asI d) fun i => QO (some i) ρ1 := rfl
theorem dTab_a : dTab tab de ρ Q = de ρ fun x ρ1 => need (qa1a ρ1 x) fun d => need (fTab tab d) fun z => Q (.d z) ρ1 := rfl
theorem fTab_s : fTab tab (.str x) = tab.lookup x := rfl
theorem qd9s : diRev de ρ QF = de ρ fun x ρ1 => need (qa1a ρ1 x) fun d => need (diRev.asT d) fun xs => QF xs.reverse ρ1 := rfl
theorem asT_t : diRev.asT (.tuple xs) = some xs := rfl
theorem dNeg_a : dNeg de ρ Q = de ρ fun x ρ1 => need (qa1a ρ1 x) fun d => need (asI d) fun i => Q (.d (.int (-i))) ρ1 := rfl
end
end L2
namespace L2
open PySem
theorem qe3x {c : TDT} {b : TDS} {D : DEnds} {ρ : Rho} (W : Nat -> Rho -> Prop) (m : Nat) (h0 : W m ρ)
  (hs : ∀ (m : Nat) (ρ : Rho) (N : Rho -> Prop), W m ρ -> (∀ m' ρ', m' < m -> W m' ρ' -> N ρ') -> c ρ fun k ρ1 => if k = true then b { D with nx := N, ct := N, bk := D.nx } ρ1 else D.nx ρ1) : qc9a c b D ρ :=
 ⟨W, ⟨m, h0⟩, fun m ρ h => hs m ρ _ h fun m' ρ' hm h' => ⟨m', hm, h'⟩⟩
end L2
end
section
namespace L2
open PySem PySem.Spec PyProof.Rows
section
variable {α : Type} {a b c d e : α} {l : List α} {x y : Str} {i j : Int} {r : List PyData}
theorem atI_0 : atI (a :: l) 0 = some a := qb1f (j := 0) rfl
theorem atI_1 : atI (a :: b :: l) 1 = some b := qb1f (j := 1) rfl
theorem qd9t : qa1o (.str x) = true := rfl
theorem qd9u : qa1o (.int i) = true := rfl
theorem qd9v {z : PyData} : inF z [] = false := rfl
theorem inF_s : inF (.str x) (.str y :: r) = (decide (y = x) || inF (.str x) r) := by
 show ((y == x) || inF (.str x) r) = _
 congr 1
end
end L2
namespace L2
open PySem PySem.Spec PyProof.Rows
noncomputable def spLaw (K : PySem.W.Frag) : Sp := fun vs H Q _ => ∃ (a : Addr) (ns : List Int), vs = [.ref a] /\ SqL K H a (ns.map V.int) /\ Only H /\ ns.length <= 63 /\ ∀ H', Q (.bl true) H'
section
variable {P : Program} {w : World} {K : PySem.W.Frag} {mg : Str -> Option Value} {base : Heap}
theorem rel_law {H : Hp} {a p : Addr} {ns : List Int} {n : Nat} (hO : Only H) (hS : SqL K H a (ns.map V.int)) (hl : ns.length <= 63) (hp : H p = none) :
  Rel K { H0 := upd H p (.lst [.ref a, .int 0]), S := fun b => b ≠ p, P := fun _ => False, M := fun b => b = p, A := fun b => b = p ∨ upd H p (.lst [.ref a, .int 0]) b = none, B := fun b => b = p, lent := fun i => if i = 1 then some p else none, sa := a, ns := ns }
   (fun i => if i = 1 then some p else none) (some .scr :: some (.tape 0) :: List.replicate n none) (some (.ref a) :: some (.ref p) :: List.replicate n none) (upd H p (.lst [.ref a, .int 0])) := by
 have at_ : ∀ {i : Nat} {l : L}, (some L.scr :: some (L.tape 0) :: List.replicate n none : Rho)[i]? = some (some l) -> (i = 0 /\ l = .scr) ∨ (i = 1 /\ l = .tape 0) := fun {i l} e => by
  match i, e with
  | 0, e => cases e; exact .inl ⟨rfl, rfl⟩
  | 1, e => cases e; exact .inr ⟨rfl, rfl⟩
  | i + 2, e =>
   rw [List.getElem?_cons_succ, List.getElem?_cons_succ, List.getElem?_replicate] at e
   split at e <;> cases e
 have own : ∀ {i : Nat} {q : Addr}, (if i = 1 then some p else none) = some q -> i = 1 /\ q = p := fun {i q} e => by
  split at e
  ·cases e; exact ⟨by assumption, rfl⟩
  ·cases e
 have sc : Scr K H a (ns.map V.int) := by
  refine ⟨by simpa using hl, ?_⟩
  rcases hS with (h | h) | h
  ·rcases hO a with z | ⟨o, xs, z⟩ <;> rw [h] at z <;> cases z
  ·exact .inl h
  ·exact .inr h
 refine ⟨fun i x e => ?_, fun i x e => ?_, fun i x e => ?_, fun i k e => ?_, fun i e => ?_, fun i j q e1 e2 => ?_, fun i q e => ?_, fun q h => ?_, fun q h => ?_, fun b o _ h => h, fun b h => h, fun q h => ?_, fun q h => ?_, fun i q e l h1 h2 => e, sc.keep (S := Any) (qa2y hp _).keep, by simp⟩
 ·rcases at_ e with ⟨_, z⟩ | ⟨_, z⟩ <;> cases z
 ·rcases at_ e with ⟨_, z⟩ | ⟨_, z⟩ <;> cases z
 ·rcases at_ e with ⟨_, z⟩ | ⟨_, z⟩ <;> cases z
 ·rcases at_ e with ⟨_, z⟩ | ⟨rfl, z⟩
  ·cases z
  ·cases z; exact ⟨p, if_pos rfl, rfl, qa0z⟩
 ·rcases at_ e with ⟨rfl, _⟩ | ⟨_, z⟩
  ·rfl
  ·cases z
 ·rw [(own e1).1, (own e2).1]
 ·rw [(own e).2]; exact ⟨.inl rfl, _, qa0z⟩
 ·rcases h with h | h
  ·exact .inl h
  ·exact .inr h
 ·rintro rfl
  have h' : upd H q (.lst [.ref a, .int 0]) q = none := h
  rw [qa0z] at h'; cases h'
 ·have h' : q = p := h
  subst h'; exact ⟨_, qa0z⟩
 ·rcases h with h | h
  ·exact h.elim
  ·have h' : q = p := h
   subst h'; rw [qa0z]; exact fun z => nomatch z
theorem Fun.law {st : Stmt} {f : Addr} {fd : FuncData} {N' : List Str} {k : Nat} (F : Fun K "law" "law" st f fd) (S : FnScope ("_law_script" :: "_law_tape" :: N') ["_law_script"] (qa0h st))
  (hbody : ∀ (cdv : Value) (A : Around) (outer : List Env) (s : Shared) (H : Hp) (E : XK), Room k (A.deeper (envOfC "law" (qa0h st) s.heap.objs.size f cdv)) ->
   ∃ (st0 : Stmt) (rest : List Stmt), qa0x st = st0 :: rest /\ PS (cxOf CX0 P w K mg base ("_law_script" :: "_law_tape" :: N') "law" (qa0h st) f cdv A outer s H E).nox st0 (tAsg (tLst (qa7s (tVar 0) (qa7s (tC (.int 0)) tNil))) (qb4x 1)) /\
    ∃ dt, DSs (cxOf CX0 P w K mg base ("_law_script" :: "_law_tape" :: N') "law" (qa0h st) f cdv A outer s H E).nox rest dt /\ dt { nx := fun _ => False, rt := fun r _ => r = .d (.bool true) } (some .scr :: some (.tape 0) :: List.replicate N'.length none)) :
  FnOk P w K mg base CX0 (k + 1) f fd ["_law_script"] (spLaw K) := by
 refine F.ok S (fun vs H Q E h => ?_) (fun cdv A outer s H vs Q E hr h => ?_)
 ·obtain ⟨a, ns, rfl, _⟩ := h; rfl
 obtain ⟨a, ns, rfl, hS, hO, hl, q⟩ := h
 obtain ⟨st0, rest, eb, p0, dt, ⟨t, pt, at_⟩, hd⟩ := hbody cdv A outer s H E hr
 rw [eb]
 refine ⟨_, qa5t p0 pt, ⟨.ref a, rfl, by show 2 <= sizeLine; decide, fun p hp => ?_⟩⟩
 have e : (start ("_law_script" :: "_law_tape" :: N') [.ref a]).set 1 (some (.ref p)) = some (.ref a) :: some (.ref p) :: List.replicate N'.length none := by
  unfold start
  simp [List.replicate_succ]
 show t _ ((start ("_law_script" :: "_law_tape" :: N') [.ref a]).set 1 (some (.ref p))) (upd H p (.lst [.ref a, .int 0]))
 rw [e]
 refine at_ _ _ _ _ _ _ _ (rel_law hO hS hl hp) ⟨fun _ _ _ _ _ _ z => (show False from z).elim, fun r O1 ρ1 σ1 H1 v h z => ?_, fun _ _ _ _ _ _ z => (show False from z).elim, fun _ _ _ _ _ _ z => (show False from z).elim, fun _ z => z, fun _ z => .inr z⟩ hd
 have z' : r = .d (.bool true) := z
 subst z'
 have ev := qb1g h.2
 subst ev
 exact q H1
end
end L2
end
section
namespace L2
open PySem PySem.Spec PyProof.Rows
section
variable {P : Program} {w : World} {K : PySem.W.Frag} {mg : Str -> Option Value} {base : Heap}
theorem qc0e {n : Nat} {f : Addr} {fd : FuncData} {ps : List Str} {ds : DSp} (h : ∀ ls Q, ¬ ds ls Q) : FnOk P w K mg base CX0 n f fd ps (spD K ds) := by
 have no : ∀ vs H Q E, ¬ spD K ds vs H Q E := fun vs H Q E z => by
  obtain ⟨c, O, ls, Qd, _, _, _, _, _, _, z, _⟩ := z
  exact h _ _ z
 exact ⟨fun vs H Q E h => absurd h (no vs H Q E), fun A outer s H args us vs Q E _ _ _ _ h => absurd h (no vs H Q E)⟩
theorem tab_all {l : List (Str × PyData × V)} (h : ∀ q ∈ l, ∀ (S : Addr -> Prop) (H : Hp), AtD K H S q.2.1 q.2.2) : ∀ z d, (l.map fun q => (q.1, q.2.1)).lookup z = some d -> ∃ v, (l.map fun q => (q.1, q.2.2)).lookup z = some v /\ ∀ (S : Addr -> Prop) (H : Hp), AtD K H S d v := by
 induction l with
 | nil => intro z d e; simp at e
 | cons q r ih =>
  intro z d e
  simp only [List.map_cons, List.lookup_cons] at e ⊢
  by_cases c : (z == q.1) = true
  ·rw [c] at e ⊢
   cases e
   exact ⟨_, rfl, h q (List.mem_cons_self ..)⟩
  ·rw [Bool.not_eq_true] at c
   rw [c] at e ⊢
   exact ih (fun q' m => h q' (List.mem_cons_of_mem _ m)) z d e
theorem qa7e {p : Addr} {its : Array Value} {n : Nat} {o : Obj} {ds : List PyData} {vs : List V} (l : K.lookup p = some o) (hc : o.cls = .type "tuple") (hd : o.data = .seq its n) (hz : its.size <= sizeLine) (hv : Vals vs its.toList) (ha : ∀ (S : Addr -> Prop) (H : Hp), qa0e K H S ds vs) : ∀ (S : Addr -> Prop) (H : Hp), AtD K H S (.tuple ds) (.ref p) := fun S H =>
 qa6d (.inr ⟨o, its, n, l, hc, hd, hz, hv⟩) (ha S H)
end
end L2
end
section
namespace L2
open PySem PySem.Spec PyProof.Rows
noncomputable def ItX (b : Bool) (h : Heap) (it a : Addr) (k : Nat) : Prop := match b with | true => h.IsListIter it a k | false => h.IsTupleIter it a k
noncomputable def SqX (b : Bool) (h : Heap) (a : Addr) (xs : Array Value) : Prop := match b with | true => h.IsList a xs | false => h.IsTuple a xs
section
variable {prog : Program} {w : World} {A : Around} {E : Value -> Shared -> Prop} {s : Shared}
end
section
variable {X : Cx} {pins : List (Addr × Obj)} {σ : List (Option V)} {H H' : Hp} {s : Shared} {h' : Heap}
noncomputable def SqB (b : Bool) (K : PySem.W.Frag) (H : Hp) (a : Addr) (xs : List V) : Prop := match b with | true => SqL K H a xs | false => SqT K H a xs
end
noncomputable def ZSt (b : Bool) (z TI TO i1 i2 a1 a2 : Addr) (i : Nat) (h : Heap) : Prop := IsZip h z TI TO .none /\ IsPair h TI (.ref i1) (.ref i2) /\ (∃ p q, IsPair h TO p q) /\ ItX b h i1 a1 i /\ ItX b h i2 a2 i
end L2
end
section
namespace L2
open PySem PySem.Spec PyProof.Rows
section
variable {X : Cx}
end
section
variable {K : PySem.W.Frag} {S : Addr -> Prop} {H : Hp}
noncomputable def SqS (b : Bool) (K : PySem.W.Frag) (S : Addr -> Prop) (H : Hp) (a : Addr) (vs : List V) : Prop := match b with | true => S a /\ H a = some (.lst vs) | false => SqT K H a vs
end
section
variable {ρ : Rho} {daa : TDA} {Q : List PyData -> Rho -> Prop}
end
end L2
end
section
namespace L2
open PySem PySem.Spec PyProof.Rows
section
variable {X : Cx}
end
section
variable {K : PySem.W.Frag}
end
section
variable {K : PySem.W.Frag} {H : Hp}
end
end L2
end
section
namespace L2
open PySem PySem.Spec PyProof.Rows
section
variable {K : PySem.W.Frag} {c : Rc} {O : Own} {ρ : Rho} {σ : St} {H H' : Hp}
end
end L2
end
section
namespace L2
open PySem PySem.Spec PyProof.Rows
section
variable {X : Cx}
end
section
variable {K : PySem.W.Frag} {S : Addr -> Prop} {H : Hp}
end
end L2
end
section
namespace L2
open PySem PySem.Spec PyProof.Rows
section
variable {K : PySem.W.Frag} {c : Rc} {O : Own} {ρ : Rho} {σ : St} {H H' : Hp}
end
end L2
end
section
namespace L2
open PySem PySem.Spec PyProof.Rows
section
variable {X : Cx}
end
section
variable {K : PySem.W.Frag} {H : Hp} {S : Addr -> Prop}
end
section
variable {K : PySem.W.Frag} {da db : TDE}
end
end L2
end
section
namespace L2
open PySem PySem.Spec PyProof.Rows
noncomputable def Rc.reb (c : Rc) (O : Own) (p : Addr) (H : Hp) : Rc := { c with H0 := H, P := fun a => c.P a ∨ a = p, M := fun a => ∃ j, O j = some a, A := fun a => ∃ j, O j = some a }
structure Pin (K : PySem.W.Frag) (c : Rc) (p : Addr) (ν : List (Str × Int)) (i : Nat) (O : Own) (ρ : Rho) (σ : St) (H : Hp) : Prop where
 rel : Rel K (c.reb O p H) O ρ σ H
 at_ : H p = some (.dK (ν.map kvE))
 slot : σ[i]? = some (some (.ref p))
 nul : ρ[i]? = some none
 bA : ∀ j q, O j = some q -> c.A q
 bS : ∀ b o, ¬ c.M b -> c.H0 b = some o -> H b = some o
 bK : ∀ b, c.H0 b ≠ none -> H b ≠ none
 bM : ∀ q, c.M q -> ∃ vs, H q = some (.lst vs)
 am : ∀ q, c.A q -> c.M q ∨ c.H0 q = none
 frs : ∀ q, c.H0 q = none -> c.S q
 fr0 : c.H0 p = none
 np : ¬ c.P p
section
variable {K : PySem.W.Frag} {c : Rc} {O O1 : Own} {ρ ρ1 : Rho} {σ σ1 : St} {H H1 H2 : Hp} {p : Addr} {ν μ : List (Str × Int)} {i : Nat}
end
section
variable {K : PySem.W.Frag}
end
section
variable {X : Cx} {iter kE vE : Expr} {rest : List Stmt} {di : TDI} {dk dv : TDE} {du : TDS} {x y : Str} {p1 p2 p3 p4 p5 p6 p7 p8 p9 p10 p11 p12 p13 : Pos}
end
end L2
end
section
namespace L2
open PySem PySem.Spec PyProof.Rows
section
variable {prog : Program} {w : World} {A : Around} {R : Result -> Shared -> Prop} {I : Addr} {fp wr : List Addr} {G : Array GenState -> Array GenState -> Prop} {St : Nat -> Shared -> Prop} {items : Array Value} {ps : List (Str × Int)}
end
section
variable {prog : Program} {w : World} {A : Around} {E : Value -> Shared -> Prop} {s : Shared}
end
end L2
end
section
namespace L2
open PySem PySem.Spec PyProof.Rows
noncomputable def NotSq (o : HO) : Prop := (∀ xs, o ≠ .lst xs) /\ (∀ xs, o ≠ .tup xs) /\ ∀ a u, o ≠ .frz a u
structure PinG (K : PySem.W.Frag) (c : Rc) (p : Addr) (o : HO) (O : Own) (ρ : Rho) (σ : St) (H : Hp) : Prop where
 rel : Rel K (c.reb O p H) O ρ σ H
 at_ : H p = some o
 nsq : NotSq o
 bA : ∀ j q, O j = some q -> c.A q
 bS : ∀ b o, ¬ c.M b -> c.H0 b = some o -> H b = some o
 bK : ∀ b, c.H0 b ≠ none -> H b ≠ none
 bM : ∀ q, c.M q -> ∃ vs, H q = some (.lst vs)
 am : ∀ q, c.A q -> c.M q ∨ c.H0 q = none
 frs : ∀ q, c.H0 q = none -> c.S q
 fr0 : c.H0 p = none
 np : ¬ c.P p
section
variable {K : PySem.W.Frag} {c : Rc} {O O1 : Own} {ρ ρ1 : Rho} {σ σ1 : St} {H H1 H2 : Hp} {p : Addr} {o o2 : HO}
end
end L2
end
section
namespace L2
open PySem PySem.Spec PyProof.Rows
section
variable {X : Cx}
theorem qe3y : bootBuiltins "sorted" = some (.builtin "sorted") := by decide +kernel
theorem strs_of_all {K : PySem.W.Frag} {H : Hp} {S : Addr -> Prop} : ∀ {ss : List Str} {xs : List V}, qa0e K H S (ss.map .str) xs -> xs = ss.map V.str
 | [], xs, h => by rw [h.unnil]; rfl
 | n :: r, xs, h => by
  obtain ⟨v, vr, rfl, hd, t⟩ := h.uncons
  rw [qb8e hd, strs_of_all t]; rfl
theorem qc3d : ∀ {us : List Value} {ss : List Str}, StrsAre us ss -> Vals (ss.map V.str) us
 | _, _, .nil => .nil
 | _, _, .cons _ _ h => .cons ⟨_, rfl⟩ (qc3d h)
end
end L2
end
section
namespace L2
open PySem PySem.Spec PyProof.Rows
section
variable {X : Cx}
theorem bt_all : bootBuiltins "all" = some (.builtin "all") := by decide +kernel
end
section
variable {K : PySem.W.Frag} {H : Hp} {S : Addr -> Prop}
theorem qb5h : ∀ {ss : List Str}, qa0e K H S (ss.map .str) (ss.map V.str)
 | [] => by unfold qa0e; rfl
 | x :: r => by
  show qa0e K H S (.str x :: r.map .str) (.str x :: r.map V.str)
  unfold qa0e
  exact ⟨_, _, rfl, qa9a _, qb5h⟩
end
section
variable {X : Cx} {e e1 e2 : Expr} {es : List Expr} {daa : TDA} {de d1 d2 : TDE} {pos : Pos}
end
section
variable {i : Nat} {de di da dd : TDA} {ρ : Rho} {Q : DV -> Rho -> Prop} {d1 d2 : TDE}
end
section
variable {K : PySem.W.Frag}
end
section
variable {X : Cx} {iter kE vE tg : Expr} {rest : List Stmt} {di : TDI} {dg : TDG} {dk dv : TDE} {du : TDS} {x y z : Str} {pos p1 p2 p3 p4 p5 p6 p7 p8 p9 p10 p11 p12 p13 : Pos}
end
end L2
end
section
namespace L2
open PySem PySem.Spec PyProof.Rows
section
variable {prog : Program} {w : World} {A : Around} {E : Value -> Shared -> Prop} {s : Shared}
noncomputable def IsZ2 (h : Heap) (z TI TO T : Addr) (b : Bool) : Prop := h.get? z = some { cls := .type "zip", dict := none, data := .fields #[rawInt T, .bool b, .bool false, .ref TI, .ref TO], slots := #[] }
noncomputable def ZF (h : Heap) (z TI TO : Addr) : Prop := (IsZip h z TI TO .none /\ ∃ p q, IsPair h TO p q) ∨ ∃ T b o, IsZ2 h z TI TO T b /\ h.get? T = some o
noncomputable def ZW (h : Heap) (z TI TO i1 i2 l1 l2 : Addr) (k : Nat) : Prop := ZF h z TI TO /\ IsPair h TI (.ref i1) (.ref i2) /\ ItX true h i1 l1 k /\ ItX false h i2 l2 k
end
end L2
end
section
namespace L2
open PySem PySem.Spec PyProof.Rows
section
variable {prog : Program} {w : World} {A : Around} {R : Result -> Shared -> Prop} {ps : List (Str × Int)} {z TI TO i1 i2 l1 l2 : Addr} {xs ys : Array Value}
end
section
variable {prog : Program} {w : World} {A : Around} {E : Value -> Shared -> Prop} {s : Shared}
end
section
variable {X : Cx}
end
noncomputable def qa7j : List PyData -> Option (List Str)
 | [] => some []
 | .str x :: r => (qa7j r).map (x :: ·)
 | _ :: _ => none
theorem qc1l : ∀ ss : List Str, qa7j (ss.map .str) = some ss
 | [] => rfl
 | x :: r => by show (qa7j (r.map .str)).map (x :: ·) = _; rw [qc1l r]; rfl
theorem qb2t : ∀ {xs : List PyData} {ss : List Str}, qa7j xs = some ss -> xs = ss.map .str
 | [], ss, h => by cases h; rfl
 | .str x :: r, ss, h => by
  have h' : (qa7j r).map (x :: ·) = some ss := h
  obtain ⟨qs, h1, rfl⟩ := Option.map_eq_some_iff.mp h'
  rw [qb2t h1]; rfl
end L2
end
section
namespace L2
open PySem
section
variable {K : PySem.W.Frag} {H : Hp} {S : Addr -> Prop}
end
end L2
end
section
namespace L2
open PySem PySem.Spec PyProof.Rows
noncomputable def qc3e : List (TE × TE) -> St -> Hp -> (List (V × V) -> Hp -> Prop) -> Prop
 | [], _, H, Q => Q [] H
 | (tk, tv) :: r, σ, H, Q => tk σ H fun x H1 => tv σ H1 fun y H2 => qc3e r σ H2 fun ps H3 => Q ((x, y) :: ps) H3
noncomputable abbrev VV : List (V × V) -> List (Value × Value) -> Prop := Paired fun p q => RelV p.1 q.1 /\ RelV p.2 q.2
noncomputable def PPs (X : Cx) (pos : Pos) (keys : List (Option Expr)) (values : List Expr) (trs : List (TE × TE)) : Prop :=
 ∀ (pins : List (Addr × Obj)) (s : Shared) (σ : St) (H : Hp) (Q : List (V × V) -> Hp -> Prop), Inv X pins σ H s -> qc3e trs σ H Q ->
  wpAny (model X.prog X.w) X.A (evalPairs (pairTrees keys values X.env pos)) (fun vs s' => ∃ ps H', Inv X pins σ H' s' /\ VV ps vs /\ Q ps H') X.xe s
theorem pps_nil {X : Cx} {pos : Pos} : PPs X pos [] [] [] := fun pins s σ H Q I h => pairTrees_nil_walk ⟨[], H, I, .nil, h⟩
theorem qe6e {X : Cx} {pos : Pos} {k v : Expr} {ks : List (Option Expr)} {vs : List Expr} {tk tv : TE} {trs : List (TE × TE)} (hk : PE X k tk) (hv : PE X v tv) (hr : PPs X pos ks vs trs) :
  PPs X pos (some k :: ks) (v :: vs) ((tk, tv) :: trs) := fun pins s σ H Q I h =>
 pairTrees_cons_walk (thn (hk pins s σ H _ I h) fun u s1 ⟨x, H1, I1, rx, q1⟩ => thn (hv pins s1 σ H1 _ I1 q1) fun w2 s2 ⟨y, H2, I2, ry, q2⟩ =>
  thn (hr pins s2 σ H2 _ I2 q2) fun ws s3 ⟨ps, H3, I3, rel, q3⟩ => ⟨(x, y) :: ps, H3, I3, .cons ⟨rx, ry⟩ rel, q3⟩)
noncomputable def qb4p (kvs more : List (Key × V)) : List (Key × V) := more.foldl (fun acc kv => putK acc kv.1 kv.2) kvs
theorem KV.merge : ∀ {more : List (Key × V)} {rs : List (Key × Value)} {kvs : List (Key × V)} {vs : List (Key × Value)}, KV more rs -> KV kvs vs -> KV (qb4p kvs more) (merged vs rs) := by
 intro more rs kvs vs r
 unfold KV at r
 induction r generalizing kvs vs with
 | nil => intro q; exact q
 | @cons p q ps qs h t ih =>
  intro r0
  have e : KV (putK kvs p.1 p.2) (stored vs q.1 q.2) := by
   have := r0.put p.1 h.2
   rw [← h.1]; exact this
  exact ih e
theorem qb7n : ∀ (more kvs : List (Key × V)), (qb4p kvs more).length <= kvs.length + more.length
 | [], kvs => by show kvs.length <= kvs.length + 0; omega
 | p :: r, kvs => by
  have h1 := qb7n r (putK kvs p.1 p.2)
  have h2 := qd4i kvs p.1 p.2
  show (qb4p (putK kvs p.1 p.2) r).length <= _
  rw [List.length_cons]; omega
theorem qc3f {P : Program} {w : World} : ∀ {kvs : List (Key × V)} {ws : List (Value × Value)}, VV (kvs.map fun kv => (kV kv.1, kv.2)) ws -> ∃ rs, Carries (qa4m P w) ws rs /\ KV kvs rs
 | [], _, r => by rw [List.map_nil] at r; cases r; exact ⟨[], True.intro, .nil⟩
 | p :: kvs, _, r => by
  rw [List.map_cons] at r
  cases r with
  | @cons a b as bs h t =>
   obtain ⟨rs, c, q⟩ := qc3f (P := P) (w := w) t
   obtain ⟨b1, b2⟩ := b
   exact ⟨(p.1, b2) :: rs, ⟨kV_is h.1, rfl, c⟩, .cons ⟨rfl, h.2⟩ q⟩
noncomputable def tDisp (trs : List (TE × TE)) : TE := fun σ H Q => ∀ p, H p = none -> qc3e trs σ (upd H p (.dK [])) fun ps H2 => H2 p = some (.dK []) /\ ∃ kvs : List (Key × V), ps = kvs.map (fun kv => (kV kv.1, kv.2)) /\ kvs.length <= 15 /\ Q (.ref p) (upd H2 p (.dK (qb4p [] kvs)))
theorem pe_disp {X : Cx} {pos : Pos} {keys : List (Option Expr)} {values : List Expr} {trs : List (TE × TE)} (h : PPs X pos keys values trs) (hall : keys.all (·.isSome) = true) (hl : keys.length = values.length) (h0 : keys ≠ [])
  (h15 : keys.length <= 15) : PE X (.Dict keys values pos) (tDisp trs) := by
 intro pins s σ H Q I q
 have hn := I.hok.fresh (Nat.le_refl s.heap.objs.size)
 have I1 := I.laid (a := s.heap.objs.size) (o := .dK []) (h' := s.heap.push { cls := .type "dict", data := .dict #[] }) (t' := s.toks) (fun _ _ q => Heap.get?_push_of_some _ q) (Nat.le_refl _) (qc8q s.heap I.big)
 refine wpAny_Dict_walk (knd := qa4m X.prog X.w) hall hl h0 h15 (thn (h pins _ σ _ _ I1 (q _ hn)) fun ws s2 ⟨ps, H2, I2, rel, e, kvs, ep, lk, q2⟩ => ?_)
 subst ep
 obtain ⟨rs, c, rk⟩ := qc3f (P := X.prog) (w := X.w) rel
 obtain ⟨z, hd, vs0, r0, dd⟩ := dk_of I2.hok e
 cases r0
 refine ⟨rs, c, dd, fun h' dd' hs => ⟨.ref s.heap.objs.size, _, ?_, rfl, q2⟩⟩
 have hz : (qb4p [] kvs).length <= sizeLine := by
  have h1 := qb7n kvs []
  rw [List.length_nil] at h1
  rw [sizeLine_eq]; omega
 have he : ∃ q, h'.get? s.heap.objs.size = some q := let ⟨q, _, _, hq, _⟩ := dd'; ⟨q, hq⟩
 exact d_write I2 (by rw [e]; exact True.intro) hs he (dk_new hz hd (rk.merge .nil) dd')
end L2
end
section
namespace L2
open PySem PySem.Spec PyProof.Rows
section
variable {prog : Program} {w : World} {A : Around} {E : Value -> Shared -> Prop} {s : Shared}
theorem qc7g {t sl : Addr} {items : Array Value} {vl vu : Value} {lo hi : Option Int} {Q : Value -> Shared -> Prop} (ht : IsTup s.heap t items) (hs : s.heap.IsSliceOf sl vl vu .none) (pl : IsPart vl lo) (pu : IsPart vu hi)
  (hw : HT.sIx items.size 0 lo = 0 /\ HT.sIx items.size items.size hi = items.size) (h : Q (.ref t) s) : wpAny (model prog w) A (getItem (.ref t) (.ref sl)) Q E s := by
 have hTs : s.TypeIs (.ref sl) "slice" := let ⟨os, hos, hcs, _⟩ := id hs; ⟨os, hos, hcs⟩
 unfold getItem
 try with_reducible refine wpAny_holding ?_
 first | refine wpAny_bind (wpAny_pure ?_) | skip
 refine wpAny_bind (wpAny_sequenceKey ht.typeIs (by decide) ?_)
 refine wpAny_bind (wpAny_callSpecial?_slot (name := Str.ofString "__getitem__") ht.typeIs slot_tuple_getitem (wpAny_call_entry slot_tuple_getitem ht.typeIs entry_tuple_getitem ?_ (args_tuple_getitem _ _)))
 show wpAny _ _ (Builtin.Tuple.tupleItemsOf (.ref t) >>= _) _ _ s
 refine wpAny_bind (tupleItemsOf_ ht (wpAny_bind (wpAny_typeOf hTs ?_)))
 rw [if_pos (by decide)]
 refine wpAny_bind (HT.qb1p hs pl pu ?_)
 rw [hw.1, hw.2]
 show wpAny _ _ (if (((0 : Nat) : Int) == 0 && (1 : Int) == 1 && (items.size - 0) == items.size) = true then _ else _) _ _ s
 rw [if_pos (by simp)]
 refine wpAny_bind (m := Builtin.Tuple.tupleIsExact (.ref t)) (wpAny_bind (wpAny_typeOf ht.typeIs (wpAny_pure ?_)))
 rw [if_pos (by decide)]
 exact wpAny_bind (wpAny_rule (wpAny_pure ⟨_, rfl, wpAny_pure h⟩))
end
section
variable {X : Cx} {e : Expr} {te : TE} {pos p2 : Pos}
noncomputable def rSlW (K : PySem.W.Frag) : V -> Option Int -> Option Int -> Hp -> VK -> Prop := fun x lo hi H Q => ∃ a xs, x = .ref a /\ SqT K H a xs /\ (HT.sIx xs.length 0 lo = 0 /\ HT.sIx xs.length xs.length hi = xs.length) /\ Q x H
theorem qa4i : SlR X (rSlW X.K) := by
 intro pins s σ H x v vl vu lo hi sl Q I rx hs pl pu h
 obtain ⟨a, xs, rfl, hx, hw, q⟩ := h
 cases rx
 obtain ⟨its, r, ht, hz⟩ := I.tuple hx
 have hlen : its.toArray.size = xs.length := by rw [List.size_toArray]; exact r.length.symm
 exact ⟨"tuple", _, slot_tuple_getitem.lookup, ht.typeIs, qc7g ht hs pl pu (by rw [hlen]; exact hw) ⟨.ref a, H, I, rfl, q⟩⟩
noncomputable def rInK (K : PySem.W.Frag) (w : World) : R2 := fun x y H Q => ∃ a kvs z, y = .ref a /\ KDict K w a kvs /\ (a == sysModules) = false /\ x = .str z /\ Q (.bl (kvs.lookup z).isSome) H
theorem KV.some_eq {kvs : List (Str × V)} {vs : List (Str × Value)} (h : KV kvs vs) (z : Str) : (valueAt vs z).isSome = (kvs.lookup z).isSome := by
 induction h with
 | nil => rfl
 | @cons p q kvs vs r _ ih =>
  obtain ⟨x, v⟩ := p
  obtain ⟨y, u⟩ := q
  obtain ⟨e, rv⟩ := r
  have e' : x = y := e
  subst e'
  rw [List.lookup_cons]
  by_cases hzx : z = x
  ·subst hzx
   simp [valueAt]
  ·have : (z == x) = false := beq_eq_false_iff_ne.mpr hzx
   rw [this]
   unfold valueAt at ih ⊢
   rw [List.find?_cons_of_neg (by simpa using fun q => hzx q.symm)]
   exact ih
theorem op_inK : OpR X (compareOp .In) (rInK X.K X.w) := by
 intro pins s σ H x y v u Q I rx ry h
 obtain ⟨a, kvs, z, rfl, ⟨hnd, es, ep, hk, he⟩, hsm, rfl, q⟩ := h
 cases ry
 obtain ⟨t, rfl⟩ := rx
 have ho := I.kIn a _ hk
 obtain ⟨vs, hp, hkv, hkeys⟩ := he.pairs (prog := X.prog)
 obtain ⟨e1, hlook⟩ := KV.look hkv
 have hd : s.heap.DictOf (strKind X.prog X.w) a vs := by
  refine ⟨_, es, ep, ho, ⟨rfl, rfl, rfl⟩, rfl, ?_, hp, by rw [← e1]; exact hnd⟩
  intro e hm
  obtain ⟨x', t', e2, e3⟩ := hkeys e (by simpa using hm)
  exact ⟨x', by rw [e2]; exact strKind_is X.prog X.w x' t', e3⟩
 refine wpAny_in_of (strKind_is X.prog X.w z t) hsm hd.mapOf ?_
 have e : (valueAt vs z).isSome = (kvs.lookup z).isSome := KV.some_eq hkv z
 rw [e]
 exact ⟨.bl _, H, I.tok _, rfl, q⟩
end
end L2
end
section
namespace L2
open PySem PySem.Spec PyProof.Rows
theorem qe1d {xs : List PyData} {lo hi : Option Int} (h : HT.sIx xs.length 0 lo = 0 /\ HT.sIx xs.length xs.length hi = xs.length) : cutD xs lo hi = xs := by
 unfold cutD
 rw [h.1, h.2, List.drop_zero, Nat.sub_zero, List.take_length]
noncomputable def fSlA : FSl := fun x lo hi => match x with
 | .tuple xs => some (.tuple (cutD xs lo hi))
 | _ => none
theorem fSlA_t {xs : List PyData} {lo hi : Option Int} : fSlA (.tuple xs) lo hi = some (.tuple (cutD xs lo hi)) := rfl
section
variable {K : PySem.W.Frag} {H : Hp} {S : Addr -> Prop}
theorem qa6l : AdSl K (fun x lo hi H Q => rSlT K x lo hi H Q ∨ rSlW K x lo hi H Q) fSlA := by
 intro S H x d z lo hi Q f hx e k
 unfold fSlA at e
 split at e
 ·rename_i xs
  cases e
  obtain ⟨a, vs, rfl, h1, h2⟩ := hx.tup
  by_cases hw : HT.sIx xs.length 0 lo = 0 /\ HT.sIx xs.length xs.length hi = xs.length
  ·refine .inr ⟨a, vs, rfl, h1, by rw [h2.length]; exact hw, k _ _ (Same.refl _) ?_⟩
   rw [qe1d hw]
   exact qa6d h1 h2
  ·exact .inl ⟨a, vs, rfl, h1, by rw [h2.length]; exact hw, fun p hp => k _ _ (qa2y hp _) (qc1g hp (h2.cut lo hi))⟩
 ·cases e
noncomputable def dNilD : TDE := fun ρ Q => Q (.d (.dict [])) ρ
theorem ad_nilD : AdE K tDNewK dNilD := by
 intro c O ρ σ H Qd Q R h k p hp
 have sm := qa2y (H := H) hp (.dK [])
 exact k _ _ _ _ _ h (R.grow sm) (.same sm) (show AtD K (upd H p (.dK [])) (live c O) (.dict []) (.ref p) from qc8t (ν := []) (R.frsLive p hp) qa0z)
noncomputable def qc1m (i : Nat) : TDE := fun ρ Q => need (ownB ρ i) fun o => Q (.d .none) (ρ.set i (some (okL o.1 o.2.reverse)))
theorem qe1e {i : Nat} : AdE K (tBM0 K "list" qc8n (tVar i)) (qc1m i) := by
 intro c O ρ σ H Qd Q R q k
 obtain ⟨⟨o, xs⟩, e, q⟩ := ne q
 obtain ⟨e0, p, vs, hO, hσ, hH, hA⟩ := qa7m R e
 refine ⟨.ref p, hσ, .inl ⟨rfl, vs, SqL.of hH⟩, p, vs, rfl, rfl, hH, ?_⟩
 obtain ⟨R3, P3⟩ := R.writeB hO hH e0 hA.reverse
 exact k _ _ _ _ _ q R3 P3 qc1j
noncomputable def TabI (K : PySem.W.Frag) (w : World) (mg : Str -> Option Value) (x : Str) (keys : List Str) : Prop := ∃ (a : Addr) (kvs : List (Str × V)), mg x = some (.ref a) /\ KDict K w a kvs /\ (a == sysModules) = false /\ kvs.map (·.1) = keys
theorem qc0p {β : Type} : ∀ (kvs : List (Str × β)) (z : Str), (kvs.lookup z).isSome = (kvs.map (·.1)).contains z
 | [], z => rfl
 | (a, b) :: r, z => by
  rw [List.lookup_cons, List.map_cons, List.contains_cons, ← qc0p r z]
  cases h : z == a <;> simp
noncomputable def dInK (keys : List Str) (de : TDE) : TDE := fun ρ Q => de ρ fun x ρ1 => need (qa1a ρ1 x) fun dx => ∃ z : Str, dx = .str z /\ Q (.d (.bool (keys.contains z))) ρ1
theorem ad_inK {w : World} {a : Addr} {kvs : List (Str × V)} {keys : List Str} {t : TE} {de : TDE} (hD : KDict K w a kvs) (hs : (a == sysModules) = false) (hk : kvs.map (·.1) = keys) (h : AdE K t de) : AdE K (tOp (rInK K w) t (tC (.ref a))) (dInK keys de) := fun c O ρ σ H Qd Q R q k =>
 h c O ρ σ H _ _ R q fun x ρ1 O1 v H1 h1 R1 P1 a1 => by
  obtain ⟨dx, e1, z, rfl, h2⟩ := ne h1
  have ev := (R1.top a1 e1).str
  subst ev
  refine ⟨a, kvs, z, rfl, hD, hs, rfl, ?_⟩
  rw [qc0p, hk]
  exact k _ _ _ _ _ h2 R1 P1 (show AtD K H1 (live c O1) (.bool _) (.bl _) from qa2n _)
noncomputable def fNotB : F2 := fun x y => match x, y with
 | .bool a, .bool b => some (.bool (!(a == b)))
 | _, _ => none
theorem ad_notB : AdR K (fun x y H Q => ∃ a b : Bool, x = .bl a /\ y = .bl b /\ Q (.bl (!(a == b))) H) fNotB := by
 intro S H x y dx dy z Q f hx hy e k
 unfold fNotB at e
 split at e <;> cases e
 exact ⟨_, _, hx.bool, hy.bool, k _ _ (Same.refl _) (qa2n _)⟩
end
section
variable {X : Cx} {e st : Expr} {de ds : TDE} {pos p2 : Pos}
theorem op_notB : OpR X (compareOp .IsNot) (fun x y H Q => ∃ a b : Bool, x = .bl a /\ y = .bl b /\ Q (.bl (!(a == b))) H) := by
 intro pins s σ H x y v u Q I rx ry h
 obtain ⟨a, b, rfl, rfl, q⟩ := h
 cases rx; cases ry
 have e : (Value.bool a == Value.bool b) = (a == b) := by cases a <;> cases b <;> rfl
 rw [← e] at q
 exact wpAny_pure ⟨.bl _, H, I, rfl, q⟩
theorem qd9w : DE X (.Dict [] [] pos) dNilD := ⟨_, qe5p, ad_nilD⟩
theorem qe1f (i : Nat) {x : Str} {p apos : Pos} (hN : X.N[i]? = some x) (hv : Vis X.env.scope x := by first | exact Or.inl rfl | exact Or.inr (Or.inl rfl) | exact Or.inr (Or.inr rfl)) (hd : (x == ("__debug__" : Str)) = false := by decide)
  (hcd : (x == ("__classdict__" : Str)) = false := by decide) (hbase : attributeBase (.Name x p) "reverse" X.env (eval (.Name x p) X.env) = eval (.Name x p) X.env := by rfl) (hline : (apos.endLine == pos.line) = true := by rfl) : DE X (.Call (.Attribute (.Name x p) "reverse" apos) [] [] pos) (qc1m i) :=
 ⟨_, pe_bm0 PySem.F.plainAttrs_list PySem.F.slot_list_reverse PySem.F.type_list_reverse qe0w (qb1k hN hv hd hcd) hbase hline, qe1e⟩
end
section
variable {i : Nat} {ρ : Rho} {Q : DV -> Rho -> Prop} {d1 d2 : TDE} {keys : List Str}
theorem qd9x : dNilD ρ Q = Q (.d (.dict [])) ρ := rfl
theorem qc3g : qc1m i ρ Q = need (qa8a (ρ[i]?.join)) fun o => Q (.d .none) (ρ.set i (some (okL o.1 o.2.reverse))) := rfl
theorem dInK_a : dInK keys d1 ρ Q = d1 ρ fun x ρ1 => need (qa1a ρ1 x) fun dx => ∃ z : Str, dx = .str z /\ Q (.d (.bool (keys.contains z))) ρ1 := rfl
end
end L2
end
section
namespace L2
open PySem PySem.Spec PyProof.Rows
theorem de_inK {X : Cx} {x : Str} {p pos : Pos} {e : Expr} {de : TDE} {keys : List Str} (hT : TabI X.K X.w X.mg x keys) (hg : Gl X x) (he : DE X e de) (hm : behindInMarks .In (.Name x p) = false := by rfl) (hd : (x == ("__debug__" : Str)) = false := by decide) : DE X (.Compare e [.In] [.Name x p] pos) (dInK keys de) := by
 obtain ⟨a, kvs, h1, h2, h3, h4⟩ := hT
 obtain ⟨t, pt, at_⟩ := he
 exact ⟨_, qd8c op_inK pt (qc4e hg h1 (v := .ref a) rfl hd) hm, ad_inK h2 h3 h4 at_⟩
end L2
end
section
namespace L2
open PySem PySem.Spec PyProof.Rows
section
variable {X : Cx}
end
end L2
end
section
namespace Sx
open PySem
noncomputable abbrev Up (xs : Array Nat) : Prop := ∀ i k : Nat, i < k -> ∀ hk : k < xs.size, ∀ hi : i < xs.size, xs[i] < xs[k]
structure Bel (xs : Array Nat) (j r : Nat) : Prop where
 le : r <= xs.size
 lo : ∀ i, i < r -> ∀ h : i < xs.size, xs[i] < j
 hi : ∀ i, r <= i -> ∀ h : i < xs.size, j <= xs[i]
theorem go_bel {xs : Array Nat} (up : Up xs) (j : Nat) : ∀ (f lo hi : Nat), hi - lo <= f -> lo <= hi -> hi <= xs.size -> (∀ i, i < lo -> ∀ h : i < xs.size, xs[i] < j) -> (∀ i, hi <= i -> ∀ h : i < xs.size, j <= xs[i]) -> Bel xs j (SetTable.below.go xs j f lo hi) := by
 intro f
 induction f with
 | zero =>
  intro lo hi hf h1 h2 a b
  have e : lo = hi := by omega
  subst e
  exact ⟨h2, a, b⟩
 | succ f ih =>
  intro lo hi hf h1 h2 a b
  unfold SetTable.below.go
  by_cases hlt : lo < hi
  ·rw [if_pos hlt]
   have hm : (lo + hi) / 2 < xs.size := by omega
   have eg : xs.getD ((lo + hi) / 2) j = xs[(lo + hi) / 2] := by
    rw [Array.getD_eq_getD_getElem?, Array.getElem?_eq_getElem hm]; rfl
   dsimp only
   rw [eg]
   by_cases hc : xs[(lo + hi) / 2] < j
   ·rw [if_pos hc]
    refine ih _ _ (by omega) (by omega) h2 (fun i hi' h => ?_) b
    by_cases e : i = (lo + hi) / 2
    ·subst e; exact hc
    ·exact Nat.lt_trans (up i ((lo + hi) / 2) (by omega) hm h) hc
   ·rw [if_neg hc]
    refine ih _ _ (by omega) (by omega) (by omega) a (fun i hi' h => ?_)
    by_cases e : i = (lo + hi) / 2
    ·subst e; omega
    ·have := up ((lo + hi) / 2) i (by omega) h hm
     omega
  ·rw [if_neg hlt]
   have e : lo = hi := by omega
   subst e
   exact ⟨h2, a, b⟩
theorem bel {xs : Array Nat} (up : Up xs) (j : Nat) : Bel xs j (SetTable.below xs j) :=
 go_bel up j xs.size 0 xs.size (by omega) (by omega) (Nat.le_refl _) (fun i h => absurd h (Nat.not_lt_zero _)) (fun i h1 h2 => absurd h2 (by omega))
theorem Bel.eq {xs : Array Nat} {j r r' : Nat} (a : Bel xs j r) (b : Bel xs j r') : r = r' := by
 rcases Nat.lt_trichotomy r r' with h | h | h
 ·have h1 := a.hi r (Nat.le_refl _) (by have := b.le; omega)
  have h2 := b.lo r h (by have := b.le; omega)
  omega
 ·exact h
 ·have h1 := b.hi r' (Nat.le_refl _) (by have := a.le; omega)
  have h2 := a.lo r' h (by have := a.le; omega)
  omega
theorem qe1g {xs : Array Nat} (up : Up xs) {i : Nat} (h : i < xs.size) : SetTable.below xs (xs[i] + 1) = i + 1 :=
 (bel up _).eq ⟨h, fun k hk hs => by
  by_cases e : k = i
  ·subst e; omega
  ·have := up k i (by omega) h hs
   omega, fun k hk hs => by have := up i k (by omega) hs h; omega⟩
theorem qe1h {xs : Array Nat} (up : Up xs) : SetTable.below xs 0 = 0 :=
 (bel up _).eq ⟨Nat.zero_le _, fun i h => absurd h (Nat.not_lt_zero _), fun i h1 h2 => Nat.zero_le _⟩
noncomputable abbrev UpL (xs : List Nat) : Prop := xs.Pairwise (· < ·)
theorem up_of {xs : Array Nat} (h : UpL xs.toList) : Up xs := fun i k hik hk hi => by
 have := List.pairwise_iff_getElem.mp h i k (by simpa using hi) (by simpa using hk) hik
 simpa using this
theorem put_up {xs : Array Nat} (h : UpL xs.toList) {j : Nat} (hj : ¬ xs[SetTable.below xs j]? = some j) : UpL (SetTable.insertAt xs (SetTable.below xs j) j).toList := by
 have b := bel (up_of h) j
 generalize SetTable.below xs j = r at b hj
 rw [SetTable.toList_insertAt]
 have h0 : UpL (xs.toList.take r ++ xs.toList.drop r) := by rw [List.take_append_drop]; exact h
 obtain ⟨h1, h2, h3⟩ := List.pairwise_append.mp h0
 have lo : ∀ a ∈ xs.toList.take r, a < j := fun a ha => by
  obtain ⟨i, hi, e⟩ := List.getElem_of_mem ha
  rw [List.length_take] at hi
  rw [List.getElem_take] at e
  have hs : i < xs.size := by simp at hi; omega
  have := b.lo i (by omega) hs
  rw [← e]; simpa using this
 have hi : ∀ a ∈ xs.toList.drop r, j < a := fun a ha => by
  obtain ⟨i, hi, e⟩ := List.getElem_of_mem ha
  rw [List.length_drop] at hi
  rw [List.getElem_drop] at e
  have hs : r + i < xs.size := by simp at hi; omega
  have h5 := b.hi (r + i) (by omega) hs
  have e' : xs[r + i] = a := by rw [← e]; simp
  have hr : r < xs.size := by omega
  have h6 := b.hi r (Nat.le_refl _) hr
  have h7 : xs[r] ≠ j := fun e => hj (by rw [Array.getElem?_eq_getElem hr, e])
  by_cases e0 : i = 0
  ·subst e0
   simp only [Nat.add_zero] at e'
   omega
  ·have := up_of h r (r + i) (by omega) hs hr
   omega
 refine List.pairwise_append.mpr ⟨h1, List.pairwise_cons.mpr ⟨hi, h2⟩, fun a ha c hc => ?_⟩
 rcases List.mem_cons.mp hc with rfl | hc
 ·exact lo a ha
 ·exact h3 a ha c hc
structure TOk (t : SetTable) : Prop where
 none : t.dummies = #[]
 up : UpL t.place.toList
theorem qe3z (f m : Nat) (l : Bool) : TOk (SetTable.fresh f m l) := ⟨rfl, List.Pairwise.nil⟩
theorem qc6s (n : Nat) : UpL (List.range n) := List.pairwise_lt_range
theorem qa9s (t : SetTable) (n : Nat) : TOk (t.standIn n) := ⟨rfl, by
 show UpL (Array.range n).toList
 rw [Array.toList_range]
 exact qc6s n⟩
theorem tok_or {t : SetTable} (h : TOk t) (n : Nat) : TOk (t.orStandIn n) := by
 unfold SetTable.orStandIn
 split
 ·exact h
 ·exact qa9s t n
theorem qd9y (j : Nat) : SetTable.has #[] j = false := by
 unfold SetTable.has
 simp
theorem qe6f {t : SetTable} (h : TOk t) (f : Nat -> Int) (hh : Int) : ∀ (n : Nat) (p : SetTable.Probe), p.dummy = none -> ∀ j d, SetTable.probe.go t f hh n p = some (.empty j d) -> d = none /\ t.slot j = .empty := by
 intro n
 induction n with
 | zero => intro p hp j d e; unfold SetTable.probe.go at e; cases e
 | succ n ih =>
  intro p hp j d e
  unfold SetTable.probe.go at e
  have adv : ∀ q : SetTable.Probe, q.dummy = none -> (t.advance q).dummy = none := fun q hq => by
   unfold SetTable.advance
   split
   ·exact hq
   ·exact hq
  split at e
  ·rename_i hs
   injection e with e
   injection e with e1 e2
   subst e1
   exact ⟨by rw [← e2, hp], hs⟩
  ·rename_i hs
   exfalso
   unfold SetTable.slot at hs
   dsimp only at hs
   rw [h.none, qd9y] at hs
   split at hs <;> cases hs
  ·split at e
   ·injection e with e; cases e
   ·exact ih _ (adv _ hp) j d e
theorem qe1i {t : SetTable} (h : TOk t) {hh : Int} {j : Nat} {b : Bool} (e : t.freeSlot hh = some (j, b)) : t.slot j = .empty := by
 unfold SetTable.freeSlot SetTable.probe at e
 split at e
 ·rename_i j' d hp
  obtain ⟨hd, hs⟩ := qe6f h _ _ _ _ rfl _ _ hp
  injection e with e
  injection e with e1 e2
  subst hd
  subst e1
  exact hs
 ·cases e
theorem tok_put {t : SetTable} (h : TOk t) {j : Nat} (hs : t.slot j = .empty) : TOk (t.put j).1 := by
 have hj : ¬ t.place[SetTable.below t.place j]? = some j := fun e => by
  unfold SetTable.slot at hs
  dsimp only at hs
  rw [e] at hs
  simp at hs
 refine ⟨?_, ?_⟩
 ·unfold SetTable.put
  dsimp only
  rw [h.none, qd9y]
  rfl
 ·exact put_up h.up hj
theorem qe1j {t : SetTable} (h : TOk t) (es : Array (Int × Value)) (hh : Int) (x : Value) : TOk (layNew t es hh x).2.1 := by
 unfold layNew
 split
 ·rename_i slot d e
  exact tok_or (tok_put h (qe1i h e)) _
 ·exact qa9s _ _
theorem qe4a {t : SetTable} (h : TOk t) (b : Bool) : TOk { t with plain := b } := ⟨h.none, h.up⟩
theorem qe6g {mask f m : Nat} {l p : Bool} {hs : Array Int} {r : SetTable × Array Nat} (e : SetTable.laid mask f m l p hs = some r) : TOk r.1 := by
 unfold SetTable.laid at e
 cases ho : SetTable.layClean mask hs with
 | none => rw [ho] at e; cases e
 | some owner =>
  rw [ho] at e
  cases e
  refine ⟨rfl, ?_⟩
  show UpL (List.map (fun q : Nat × Nat => q.1) _)
  have key : ∀ (l : List Nat), UpL l -> UpL (List.map (fun q : Nat × Nat => q.1) (l.filterMap fun j => (owner.getD j none).map (j, ·))) := by
   intro l hl
   refine List.pairwise_map.mpr ?_
   refine List.Pairwise.filterMap _ (fun a a' haa b hb c hc => ?_) hl
   cases ha : owner.getD a none with
   | none => rw [ha] at hb; cases hb
   | some u =>
    cases ha' : owner.getD a' none with
    | none => rw [ha'] at hc; cases hc
    | some u' =>
     rw [ha] at hb; rw [ha'] at hc
     cases hb; cases hc
     exact haa
  exact key _ (qc6s _)
theorem qe4b {t : SetTable} (h : TOk t) (es : Array (Int × Value)) (n : Nat) : TOk (relayAll t es n).2.1 := by
 unfold relayAll
 split
 ·rename_i t' order e
  dsimp only
  split
  ·exact qe6g e
  ·exact qa9s _ _
 ·exact qa9s _ _
theorem qe1k (t : SetTable) (es : Array (Int × Value)) (hh : Int) (x : Value) : (layNew t es hh x).2.1.led = t.led := by
 unfold layNew
 split
 ·dsimp only
  unfold SetTable.orStandIn
  split <;> rfl
 ·rfl
theorem qe4c (t : SetTable) (es : Array (Int × Value)) (n : Nat) : (relayAll t es n).2.1.led = t.led := by
 unfold relayAll
 split
 ·rename_i t' order e
  dsimp only
  split
  ·unfold SetTable.relaid SetTable.laid at e
   cases ho : SetTable.layClean (SetTable.sizeAbove n - 1) (es.map (·.1)) with
   | none => rw [ho] at e; cases e
   | some owner => rw [ho] at e; cases e; rfl
  ·rfl
 ·rfl
end Sx
end
section
namespace Sx
open PySem
section
variable {prog : Program} {w : World} {K : Type} [DecidableEq K] (knd : KeyKind prog w K) (dec : Value -> K)
structure Fc (ks : List K) (es : Array (Int × Value)) (t : SetTable) : Prop where
 el : ElemsOf knd es.toList
 pm : (es.toList.map fun e => dec e.2).Perm ks
 nd : ks.Nodup
 sz : es.size < scanBound
 ft : t.fits es.size = true
 ok : TOk t
 ld : t.led = !w.params.followText "set-order"
noncomputable abbrev setO (es : Array (Int × Value)) (ep : Nat) (t : SetTable) : Obj := { cls := .type "set", dict := none, data := .set es ep t, slots := #[] }
noncomputable def SetV (h : Heap) (a : Addr) (ks : List K) : Prop := ∃ es ep t, h.get? a = some (setO es ep t) /\ Fc knd dec ks es t
noncomputable def ins (ks : List K) (k : K) : List K := if k ∈ ks then ks else ks ++ [k]
variable {knd dec}
variable {A : Around} {E : Value -> Shared -> Prop} {s : Shared}
theorem Fc.relay {ks : List K} {es : Array (Int × Value)} {t : SetTable} (F : Fc knd dec ks es t) (n : Nat) : Fc knd dec ks (relayAll t es n).1 (relayAll t es n).2.1 := by
 have p := relayAll_perm t es n
 have z : (relayAll t es n).1.size = es.size := by rw [← Array.length_toList, p.length_eq, Array.length_toList]
 exact ⟨F.el.perm p, (p.map _).trans F.pm, F.nd, by rw [z]; exact F.sz, relayAll_fits t es n, qe4b F.ok es n, by rw [qe4c]; exact F.ld⟩
theorem Fc.plain {ks : List K} {es : Array (Int × Value)} {t : SetTable} (F : Fc knd dec ks es t) : Fc knd dec ks es { t with plain := false } :=
 ⟨F.el, F.pm, F.nd, F.sz, SetTable.fits_plain_off F.ft, qe4a F.ok _, F.ld⟩
theorem Fc.lay {ks : List K} {es : Array (Int × Value)} {t : SetTable} (F : Fc knd dec ks es t) (hdec : ∀ k v, knd.is k v = true -> dec v = k) {k : K} {x : Value} (hk : knd.is k x = true) (hx : x.scannable = true) (hn : k ∉ ks) (hr : ks.length + 1 < scanBound) :
  Fc knd dec (ks ++ [k]) (layNew t es (knd.hash k) x).1 (layNew t es (knd.hash k) x).2.1 := by
 have p := layNew_perm t es (knd.hash k) x
 rw [Array.toList_push] at p
 have z0 : es.size = ks.length := by have := F.pm.length_eq; simpa using this
 have z : (layNew t es (knd.hash k) x).1.size = es.size + 1 := by rw [← Array.length_toList, p.length_eq]; simp
 refine ⟨(F.el.push hk hx).perm p, ?_, ?_, by rw [z, z0]; exact hr, layNew_fits t es _ x, qe1j F.ok es _ x, by rw [qe1k]; exact F.ld⟩
 ·have p2 := p.map (fun e => dec e.2)
  rw [List.map_append] at p2
  have e1 : List.map (fun e : Int × Value => dec e.2) [(knd.hash k, x)] = [k] := by simp [hdec k x hk]
  rw [e1] at p2
  exact p2.trans (F.pm.append_right [k])
 ·rw [List.nodup_append]
  refine ⟨F.nd, List.pairwise_singleton _ k, fun a ha b hb => ?_⟩
  rw [List.mem_singleton] at hb
  subst hb
  exact fun e => hn (e ▸ ha)
theorem qc6t {h : Heap} {a : Addr} {es : Array (Int × Value)} {ep : Nat} {t : SetTable} (ho : h.get? a = some (setO es ep t)) (es' : Array (Int × Value)) (t' : SetTable) : (h.update a (Obj.putSet es' t')).get? a = some (setO es' (ep + 1) t') := by
 have := Heap.get?_update_self (Obj.putSet es' t') ho (by rw [putSet_of es' t' rfl]; rfl)
 rw [putSet_of es' t' rfl] at this; exact this
theorem tail_v {g : Bool -> Sem Unit} (hg : ∀ (b : Bool) (s₁ : Shared) (Q' : Unit -> Shared -> Prop), Q' () s₁ -> wpAny (model prog w) A (g b) Q' E s₁) {a : Addr} {es : Array (Int × Value)} {ep : Nat} {t : SetTable} (ho : s.heap.get? a = some (setO es ep t))
  {ks : List K} {e1 : Array (Int × Value)} {t1 : SetTable} (F : Fc knd dec ks e1 t1) {wd : Bool} {R : Option Bool -> Shared -> Prop} (h : ∀ h', Heap.SameBut a s.heap h' -> SetV knd dec h' a ks -> R (some true) { s with heap := h' }) :
  wpAny (model prog w) A (do
    storeSet a e1 t1
    if (!wd && t1.tooFull) = true then do
      g (relayAll t1 e1 (SetTable.grown e1.size)).2.2; storeSet a (relayAll t1 e1 (SetTable.grown e1.size)).1 (relayAll t1 e1 (SetTable.grown e1.size)).2.1
      pure (some true)
     else pure (some true)) R E s := by
 refine wpAny_bind (wpAny_storeSet_of ho rfl ?_ (fits_of_scanBound F.sz))
 have o1 := qc6t ho e1 t1
 have b1 := Heap.SameBut.update s.heap a (Obj.putSet e1 t1)
 split
 ·have F2 := F.relay (SetTable.grown e1.size)
  generalize relayAll t1 e1 (SetTable.grown e1.size) = Rl at F2 ⊢
  refine wpAny_bind (hg _ _ _ (wpAny_bind (wpAny_storeSet_of o1 rfl ?_ (fits_of_scanBound F2.sz))))
  exact wpAny_pure (h _ (b1.trans (Heap.SameBut.update _ a _)) ⟨_, _, _, qc6t o1 _ _, F2⟩)
 ·exact wpAny_pure (h _ b1 ⟨_, _, _, o1, F⟩)
theorem addH_v (hdec : ∀ k v, knd.is k v = true -> dec v = k) {a : Addr} {ks : List K} {k : K} {x : Value} {Q : Bool -> Shared -> Prop} (hk : knd.is k x = true) (hx : x.scannable = true) (hS : SetV knd dec s.heap a ks) (hr : ks.length + 1 < scanBound)
  (h : ∀ b h', Heap.SameBut a s.heap h' -> SetV knd dec h' a (ins ks k) -> Q b { s with heap := h' }) : wpAny (model prog w) A (setAddHashed a x (knd.hash k)) Q E s := by
 obtain ⟨es, ep, t, ho, F⟩ := hS
 unfold setAddHashed; unfold setAddHashedIn
 refine wpAny_holding (wpAny_bind (wpAny_setState_of ho rfl F.ft ?_))
 dsimp only
 rw [byScan_of hx F.sz F.el]; simp only [↓reduceIte]
 unfold setAddByScan
 refine wpAny_bind (wpAny_bind (wpAny_rule (wpAny_bind (wpAny_setScan_of hk ho rfl F.ft F.el ?_))))
 cases hf : List.findIdx? (fun e => knd.is k e.2) es.toList with
 | some j =>
  obtain ⟨hj, hpj, _⟩ := List.findIdx?_eq_some_iff_getElem.mp hf
  have hm : k ∈ ks := F.pm.mem_iff.mp (List.mem_map.mpr ⟨es.toList[j], List.getElem_mem hj, hdec _ _ hpj⟩)
  refine wpAny_pure (wpAny_pure ?_)
  have := h false s.heap (Heap.SameBut.refl a s.heap) (by rw [ins, if_pos hm]; exact ⟨es, ep, t, ho, F⟩)
  cases s; exact this
 | none =>
  have hn : k ∉ ks := fun hm => by
   obtain ⟨e, he, q⟩ := List.mem_map.mp (F.pm.mem_iff.mpr hm)
   obtain ⟨⟨k2, hk2, _⟩, _⟩ := F.el e he
   have e2 : k2 = k := (hdec _ _ hk2).symm.trans q
   have := List.findIdx?_eq_none_iff.mp hf e he
   rw [← e2, hk2] at this; cases this
  have F1 := F.lay hdec hk hx hn hr
  have hw : ∀ (b : Bool) {s₁ : Shared} {Q' : Unit -> Shared -> Prop}, Q' () s₁ -> wpAny (model prog w) A (match b with | true => rule "set.scan.the-table-gave-way" | false => pure ()) Q' E s₁ := fun b s₁ Q' hq => by
   cases b <;> first | exact wpAny_pure hq | exact wpAny_rule hq
  have fin : ∀ h', Heap.SameBut a s.heap h' -> SetV knd dec h' a (ks ++ [k]) -> Q true { s with heap := h' } := fun h' b1 b2 => h true h' b1 (by rw [ins, if_neg hn]; exact b2)
  dsimp only
  generalize layNew t es (knd.hash k) x = L at F1 ⊢
  obtain ⟨e1, t1, wd, gave⟩ := L
  dsimp only at F1 ⊢
  refine wpAny_bind (hw _ ?_)
  split
  ·refine wpAny_bind ?_
   rw [hashByValue_scannable 8 hx]
   refine wpAny_pure (tail_v (knd := knd) (dec := dec) ?_ ho (ks := ks ++ [k]) ?_ ?_)
   ·intro b s₁ Q' hq; cases b <;> first | exact wpAny_pure hq | exact wpAny_rule hq
   ·split
    ·exact F1
    ·exact F1.plain
   ·intro h' hb hS'; exact wpAny_pure (fin h' hb hS')
  ·refine wpAny_bind (wpAny_pure ?_); simp only [↓reduceIte]
   refine tail_v ?_ ho F1 ?_
   ·intro b s₁ Q' hq; cases b <;> first | exact wpAny_pure hq | exact wpAny_rule hq
   ·intro h' hb hS'; exact wpAny_pure (fin h' hb hS')
theorem add_v (hdec : ∀ k v, knd.is k v = true -> dec v = k) {a : Addr} {ks : List K} {k : K} {x : Value} {Q : Bool -> Shared -> Prop} (hk : knd.is k x = true) (hx : x.scannable = true) (hS : SetV knd dec s.heap a ks) (hr : ks.length + 1 < scanBound)
  (h : ∀ b h', Heap.SameBut a s.heap h' -> SetV knd dec h' a (ins ks k) -> Q b { s with heap := h', toks := s.toks + 1 }) : wpAny (model prog w) A (setAdd a x) Q E s := by
 unfold setAdd
 refine wpAny_holding (wpAny_bind (knd.pyHash hk ?_))
 exact addH_v hdec hk hx (s := { s with toks := s.toks + 1 }) hS hr fun b h' b1 b2 => h b h' b1 b2
end
end Sx
end
section
namespace Sx
open PySem
theorem qc6u : entryFor table "set.update.loop" = some Builtin.«set.update.loop» := entryFor_of_tree (by kernel_rfl)
theorem qb8l : plainId "set.update.loop" = true := by decide +kernel
section
variable {K : Type} [DecidableEq K]
noncomputable def uniq (ks : List K) : List K := ks.foldl ins []
theorem qe4d (ks : List K) (k : K) : uniq (ks ++ [k]) = ins (uniq ks) k := by unfold uniq; rw [List.foldl_append]; rfl
theorem ins_le (ks : List K) (k : K) : (ins ks k).length <= ks.length + 1 := by
 unfold ins; split
 ·omega
 ·rw [List.length_append]; exact Nat.le_refl _
theorem uniq_go (ks : List K) : ∀ l : List K, (ks.foldl ins l).length <= l.length + ks.length := by
 induction ks with
 | nil => intro l; exact Nat.le_refl _
 | cons k r ih =>
  intro l
  have h1 := ih (ins l k)
  have h2 := ins_le l k
  rw [List.foldl_cons, List.length_cons]
  omega
theorem qd9z (ks : List K) : (uniq ks).length <= ks.length := by
 have := uniq_go ks []
 simpa [uniq] using this
theorem mem_ins {ks : List K} {k j : K} : j ∈ ins ks k ↔ j ∈ ks ∨ j = k := by
 unfold ins; split
 ·rename_i h
  exact ⟨.inl, fun q => q.elim id (fun e => e ▸ h)⟩
 ·rw [List.mem_append, List.mem_singleton]
theorem qe4e {ks : List K} (h : ks.Nodup) (k : K) : (ins ks k).Nodup := by
 unfold ins; split
 ·exact h
 ·rename_i hk
  rw [List.nodup_append]
  refine ⟨h, List.pairwise_singleton _ k, fun a ha b hb => ?_⟩
  rw [List.mem_singleton] at hb
  subst hb
  exact fun e => hk (e ▸ ha)
theorem mem_go (ks : List K) : ∀ (l : List K) (j : K), j ∈ ks.foldl ins l ↔ j ∈ l ∨ j ∈ ks := by
 induction ks with
 | nil => intro l j; simp
 | cons k r ih => intro l j; rw [List.foldl_cons, ih, mem_ins, List.mem_cons, or_assoc]
theorem qd0m {ks : List K} {j : K} : j ∈ uniq ks ↔ j ∈ ks := by unfold uniq; rw [mem_go]; simp
theorem qe6h (ks : List K) : ∀ l : List K, l.Nodup -> (ks.foldl ins l).Nodup := by
 induction ks with
 | nil => intro l h; exact h
 | cons k r ih => intro l h; exact ih _ (qe4e h k)
theorem qc3h (ks : List K) : (uniq ks).Nodup := qe6h ks [] List.Pairwise.nil
end
section
variable {prog : Program} {w : World} {K : Type} [DecidableEq K] {knd : KeyKind prog w K} {dec : Value -> K} {A : Around} {R : Result -> Shared -> Prop} {I : Addr} {fp wr : List Addr} {G : Array GenState -> Array GenState -> Prop} {St : Nat -> Shared -> Prop} {items : Array Value} {ks : List K}
theorem SetV.move {h h' : Heap} {a : Addr} (x : SetV knd dec h a ks) (e : ∀ o, h.get? a = some o -> h'.get? a = some o) : SetV knd dec h' a ks := by
 obtain ⟨es, ep, t, ho, F⟩ := x
 exact ⟨es, ep, t, e _ ho, F⟩
theorem qe6i (hdec : ∀ k v, knd.is k v = true -> dec v = k) (W : WalksS prog w A.in1 I fp wr G items.size (fun i v => items[i]? = some v) St) (D : Addr) (hDf : D ∉ fp) (hl : items.size < 4000) (hks : ∀ (i : Nat) (v : Value), items[i]? = some v -> ∃ k, ks[i]? = some k /\ knd.is k v = true /\ v.scannable = true) :
  ∀ (m i : Nat) (s : Shared), items.size - i = m -> i <= items.size -> St i s -> SetV knd dec s.heap D (uniq (ks.take i)) ->
   (∀ s', Moved (D :: wr) G s s' -> SetV knd dec s'.heap D (uniq (ks.take items.size)) -> R (.ok (.ret .none)) s') ->
   codeAny (model prog w) A (.builtin "set.update.loop" ⟨[.ref D, .ref I], []⟩) R s := by
 have hDw : D ∉ wr := fun h => hDf (W.sub _ h)
 have up : ∀ b ∈ wr, b ∈ D :: wr := fun b hb => List.mem_cons_of_mem _ hb
 intro m
 induction m with
 | zero =>
  intro i s hm hi st sv fin
  have hin : i = items.size := by omega
  subst hin
  refine codeAny_builtin qc6u ?_
  rw [Around.under_plainId qb8l _]
  show wpAny _ A.in1 (pyNext (.ref I) >>= _) _ _ s
  refine wpAny_bind (W.done s _ _ st fun s' mv => ?_)
  exact wpAny_pure (fin s' (mv.mono up) (sv.move fun o e => mv.heap D _ hDw e))
 | succ m ih =>
  intro i s hm hi st sv fin
  have hlt : i < items.size := by omega
  refine codeAny_builtin qc6u ?_
  rw [Around.under_plainId qb8l _]
  show wpAny _ A.in1 (pyNext (.ref I) >>= _) _ _ s
  refine wpAny_bind (W.item i s _ _ hlt st fun v s' hv st' mv => ?_)
  obtain ⟨k, hk, hi1, hi2⟩ := hks i v hv
  have sv' := sv.move (h' := s'.heap) fun o e => mv.heap D _ hDw e
  have hsz : (uniq (ks.take i)).length + 1 < scanBound := by
   have h1 := qd9z (ks.take i)
   have h2 := List.length_take_le i ks
   have h3 : scanBound = 4096 := rfl
   omega
  show wpAny _ A.in1 (holding [v] (setAdd D v) >>= _) _ _ s'
  refine wpAny_bind (wpAny_holding (add_v hdec hi1 hi2 sv' hsz fun b h' hs sv2 => ?_))
  have e1 : uniq (ks.take (i + 1)) = ins (uniq (ks.take i)) k := by
   rw [List.take_add_one, hk, Option.toList_some, qe4d]
  refine wpAny_pure ⟨plainId_quiet qb8l _, ih (i + 1) _ (by omega) hlt (W.frame _ s' _ _ st' (Nat.le_succ _) fun b hb o e => ?_) (by rw [e1]; exact sv2) fun s2 mv2 sv3 => ?_⟩
  ·rw [hs.2 b (fun h : b = D => hDf (by rw [← h]; exact hb))]; exact e
  ·refine fin s2 (Moved.trans W.gtrans ((mv.mono up).then_heap (Nat.le_succ _) fun b o hb e => ?_) mv2) sv3
   rw [hs.2 b (fun h : b = D => hb (by rw [h]; exact List.mem_cons_self))]; exact e
end
theorem tc_set (x : Value) : checkTypeCall "set" ⟨[x], []⟩ = pure () := by kernel_rfl
theorem nc_set (x : Value) : checkBuiltinCall "set.__new__" ⟨[.type "set", x], []⟩ = pure () := by kernel_rfl
theorem qd0n : isSubtype (.type "list") (.type "set") = pure false := by rw [isSubtype_type]; kernel_rfl
theorem qd4m : isSubtype (.type "list") (.type "frozenset") = pure false := by rw [isSubtype_type]; kernel_rfl
theorem qd4n : isSubtype (.type "tuple") (.type "set") = pure false := by rw [isSubtype_type]; kernel_rfl
theorem qe1l : isSubtype (.type "tuple") (.type "frozenset") = pure false := by rw [isSubtype_type]; kernel_rfl
section
variable {prog : Program} {w : World} {A : Around} {E : Value -> Shared -> Prop} {s : Shared}
noncomputable abbrev newO (w : World) : Obj := setO #[] 0 (.fresh 0 0 (!w.params.followText "set-order"))
theorem new_v (x : Value) {Q₁ : Value -> Shared -> Prop} (h : Q₁ (.ref s.heap.objs.size) { s with heap := s.heap.push (newO w) }) :
  codeAny (model prog w) A (.call (.builtin "set.__new__") ⟨[.type "set", x], []⟩) (wants Q₁ E) s := by
 refine codeAny_call_builtin F.plain_set_new F.entry_set_new (wpAny_of_eq (nc_set x) ?_)
 unfold Builtin.«set.__new__» Builtin.Frozenset.newClass
 have hsub := sub_set_self
 obtain ⟨hp, g, d, tk, os⟩ := s
 dsimp only
 wp_walk
 refine wpAny_askSetting (wpAny_pure ?_); dsimp only
 simp only [newObj]
 exact wpAny_bind (wpAny_alloc (wpAny_pure (wpAny_pure h)))
theorem check_v {M : Model} {self x : Value} {Q : Unit -> Shared -> Prop} (hT : s.TypeIs self "set") (hQ : Q () s) : wpAny M A (checkBuiltinCall "set.__init__" ⟨[self, x], []⟩) Q E s := by
 simp only [kind_set_init, checkBuiltinCall, split_set_init, sig_set_init]
 refine wpAny_bind (wpAny_isInstance hT sub_set_self ?_)
 simp only [Bool.false_eq_true, Bool.not_true, if_false]
 unfold Bind.checkArgs
 dsimp only
 refine wpAny_bind (m := Bind.printed "set" true _ _) (PyProof.Rows.printed_name (by decide) (wpAny_bind (m := Bind.printed "*" false _ _) (PyProof.Rows.printed_star (self := self) rfl hT fun short => ?_)))
 have r0 : (Manifest.Receiver.self == Manifest.Receiver.none) = false := by decide
 have n1 : (if (Manifest.Receiver.self == Manifest.Receiver.none) = true then [self, x].length else [self, x].length - 1) = 1 := by simp [r0]
 rw [n1, List.map_nil]
 have hc : Bind.check ⟨.positional, "set", "*", .self, [⟨"iterable", .posOnly, false⟩]⟩ "set" short 1 [] = pure () := by
  simp [Bind.checkCount, Bind.check, Bind.isPositional]; intro q; exact absurd q (by decide)
 rw [hc]
 exact wpAny_pure hQ
theorem call_v {K : Type} [DecidableEq K] {knd : KeyKind prog w K} {dec : Value -> K} {l : Addr} {items : Array Value} {ks : List K} {Q : Value -> Shared -> Prop} (hdec : ∀ k v, knd.is k v = true -> dec v = k) (hh : A.handled = none) (hq : s.heap.IsList l items ∨ s.heap.IsTuple l items) (hl : items.size < 4000) (hlen : ks.length = items.size)
  (hks : ∀ (i : Nat) (v : Value), items[i]? = some v -> ∃ k, ks[i]? = some k /\ knd.is k v = true /\ v.scannable = true)
  (h : ∀ h' tk, SetV knd dec h' s.heap.objs.size (uniq ks) -> (∀ b o, s.heap.get? b = some o -> h'.get? b = some o) -> Q (.ref s.heap.objs.size) { s with heap := h', toks := tk }) :
  wpAny (model prog w) A (call (.type "set") [.ref l]) Q E s := by
 obtain ⟨c, tl, hmro⟩ := F.called_set.mro
 have hsub := F.called_set.sub; have hmade := F.called_set.made
 refine wpAny_call (codeAny_of_tree ?_); show wpAny _ _ (callAny (.type "set") _) _ _ _
 refine wpAny_pure ⟨Code.quiet_builtin _ (by decide +kernel), codeAny_builtin F.entry_type_call ?_⟩
 rw [Around.under_plain (weight_type_call_type "set" [.ref l] []) rfl]
 have h1 := F.called_set.notType; have h2 := F.called_set.canCreate; have hct := tc_set (.ref l)
 repeat (any_goals (first | assumption | wp_step))
 refine codeAny_mono (new_v (E := E) (.ref l) (Q₁ := fun obj s₁ => obj = .ref s.heap.objs.size /\ s₁ = { s with heap := s.heap.push (newO w) }) ⟨rfl, rfl⟩) fun r s₁ hr => ?_
 cases r with
 | error e => exact hr
 | ok fl =>
  cases fl with
  | ret obj =>
   obtain ⟨rfl, rfl⟩ := hr
   have hS : (s.heap.push (newO w)).get? s.heap.objs.size = some (newO w) := Heap.get?_push_size _ rfl
   have sv : SetV knd dec (s.heap.push (newO w)) s.heap.objs.size ([] : List K) := ⟨_, _, _, hS, ⟨fun e he => by simp at he, by simp, List.Pairwise.nil, by decide, rfl, qe3z _ _ _, rfl⟩⟩
   have hT : Shared.TypeIs { s with heap := s.heap.push (newO w) } (.ref s.heap.objs.size) "set" := ⟨_, hS, rfl⟩
   have hli := F.called_set.init.lookup; have hbi := F.called_set.init.bind (.ref s.heap.objs.size)
   repeat (any_goals (first | assumption | wp_step))
   refine codeAny_mono (codeAny_call_builtin (R := wants (fun r s₂ => r = .none /\ Q (.ref s.heap.objs.size) s₂) E) F.called_set.init.plain F.entry_set_init (check_v hT ?_)) fun r₂ s₂ hr₂ => ?_
   ·unfold Builtin.«set.__init__» noKeywords
    obtain ⟨T, hTl, n1, n2, n3⟩ : ∃ T, Shared.TypeIs { s with heap := s.heap.push (newO w) } (.ref l) T /\ isSubtype (.type T) (.type "set") = pure false /\ isSubtype (.type T) (.type "frozenset") = pure false /\ (Value.type T == Value.type "dict") = false := by
     rcases hq with hq | hq
     ·exact ⟨"list", (hq.push _).typeIs, qd0n, qd4m, by decide⟩
     ·exact ⟨"tuple", (hq.push _).typeIs, qd4n, qe1l, by decide⟩
    have hS' : Heap.get? (Shared.heap { s with heap := s.heap.push (newO w) }) s.heap.objs.size = some (newO w) := hS
    have hlt : l < s.heap.objs.size := by rcases hq with ⟨o, ho, _⟩ | ⟨o, ho, _⟩ <;> exact Heap.lt_size ho
    have hI : (s.heap.push (newO w)).objs.size = s.heap.objs.size + 1 := Heap.size_push ..
    have PI : ∀ (Q' : Value -> Shared -> Prop) (E' : Value -> Shared -> Prop), (∀ (o : Obj) (St : Nat -> Shared -> Prop), WalksS prog w A.in1.in1.in1 (s.heap.objs.size + 1) [s.heap.objs.size + 1, l] [s.heap.objs.size + 1] (fun a b => b = a) items.size (fun i v => items[i]? = some v) St -> St 0 { s with heap := (s.heap.push (newO w)).push o } -> Q' (.ref (s.heap.objs.size + 1)) { s with heap := (s.heap.push (newO w)).push o }) ->
      wpAny (model prog w) A.in1.in1 (pyIter (.ref l)) Q' E' { s with heap := s.heap.push (newO w) } := by
     intro Q' E' k
     have hne : l ≠ s.heap.objs.size + 1 := Nat.ne_of_lt (Nat.lt_succ_of_lt hlt)
     rcases hq with hq | hq
     ·refine wpAny_pyIter_list (hq.push _) ?_
      rw [show Shared.heap { s with heap := s.heap.push (newO w) } = s.heap.push (newO w) from rfl, hI]
      exact k _ _ ((Walks.list (A := A.in1.in1.in1) (by simp [hh]) _ l hne items).toS) ⟨⟨_, by rw [← hI]; exact Heap.get?_push_size _ rfl, rfl, rfl⟩, (hq.push _).push _⟩
     ·refine wpAny_pyIter_tuple (hq.push _) ?_
      rw [show Shared.heap { s with heap := s.heap.push (newO w) } = s.heap.push (newO w) from rfl, hI]
      exact k _ _ ((Walks.tuple (A := A.in1.in1.in1) (by simp [hh]) _ l hne items).toS) ⟨⟨_, by rw [← hI]; exact Heap.get?_push_size _ rfl, rfl, rfl⟩, (hq.push _).push _⟩
    repeat (any_goals (first | assumption | ((with_reducible show wpAny _ _ (pyIter (Value.ref l)) _ _ _); refine PI _ _ fun o St W st => ?_) | ((with_reducible show wpAny _ _ (runValue _) _ _ _); refine wpAny_runValue ?_) | wp_step))
    have hDf : s.heap.objs.size ∉ [s.heap.objs.size + 1, l] := by
     simp only [List.mem_cons, List.not_mem_nil, or_false, not_or]
     exact ⟨Nat.ne_of_lt (Nat.lt_succ_self _), Nat.ne_of_gt hlt⟩
    refine qe6i hdec W s.heap.objs.size hDf hl hks items.size 0 _ (by omega) (Nat.zero_le _) st (sv.move fun o e => Heap.get?_push_of_some _ e) fun s' mv sv' => ?_
    refine wpAny_pure (wpAny_pure ⟨rfl, ?_⟩)
    rw [← hlen, List.take_length] at sv'
    have hk := h s'.heap s'.toks sv' fun b o e => mv.heap b o (fun hm => ?_) (Heap.get?_push_of_some _ (Heap.get?_push_of_some _ e))
    ·have eg : s'.gens = s.gens := mv.gens
     have ed : s'.drawn = s.drawn := mv.drawn
     have eo : s'.os = s.os := mv.os
     cases s'; dsimp only at eg ed eo hk; subst eg ed eo; exact hk
    ·have := Heap.lt_size e
     rcases List.mem_cons.mp hm with q | q
     ·exact absurd this (by rw [q]; exact Nat.lt_irrefl _)
     ·rw [List.mem_singleton] at q
      exact absurd this (by rw [q]; exact Nat.not_lt.mpr (Nat.le_succ _))
   ·cases r₂ with
    | error e => exact hr₂
    | ok fl₂ =>
     cases fl₂ with
     | ret r =>
      obtain ⟨rfl, hq⟩ := hr₂
      repeat (any_goals (first | assumption | wp_step))
     | _ => exact hr₂.elim
  | _ => exact hr.elim
end
end Sx
end
section
namespace Sx
open PySem
theorem qc1n {α : Type} : ∀ {l : List α} {i : Nat} {x : α}, l[i]? = some x -> (x :: l.eraseIdx i).Perm l
 | [], i, x, h => by simp at h
 | a :: r, 0, x, h => by
  simp at h
  subst h
  exact List.Perm.refl _
 | a :: r, i + 1, x, h => by
  have h' : r[i]? = some x := by simpa using h
  exact (List.Perm.swap a x _).trans (List.Perm.cons a (qc1n h'))
theorem pick_go {α : Type} (f : Nat -> Nat) : ∀ (n k : Nat) (l : List α) (out : Array α), l.length = n -> (pickOrder.go f n k l out).toList.Perm (out.toList ++ l) := by
 intro n
 induction n with
 | zero =>
  intro k l out h
  have e : l = [] := List.eq_nil_of_length_eq_zero h
  subst e
  unfold pickOrder.go
  simp
 | succ n ih =>
  intro k l out h
  unfold pickOrder.go
  have hm : f k % l.length < l.length := Nat.mod_lt _ (by omega)
  have he : l[f k % l.length]? = some l[f k % l.length] := List.getElem?_eq_getElem hm
  rw [he]
  dsimp only
  refine (ih (k + 1) _ _ (by rw [List.length_eraseIdx_of_lt hm]; omega)).trans ?_
  rw [Array.toList_push, List.append_assoc]
  exact (qc1n he).append_left out.toList
theorem qb8m {α : Type} (f : Nat -> Nat) (xs : Array α) : (pickOrder f xs).toList.Perm xs.toList := by
 have := pick_go f xs.size 0 xs.toList #[] (by simp)
 simpa [pickOrder] using this
section
variable {M : Model} {A : Around} {E : Value -> Shared -> Prop} {s : Shared}
theorem qe1m {src : Source} {n : Nat} {Q : Nat -> Shared -> Prop} (hn : n ≠ 0) (h : ∀ i d, i < n -> Q i { s with drawn := d }) : wpAny M A (choose src n) Q E s :=
 fun Γ p hΓ => ⟨hn, h _ _ (Nat.mod_lt _ (Nat.pos_of_ne_zero hn))⟩
theorem qe6j {α : Type} : ∀ (n : Nat) (l : List α) (s : Shared) {Q : List α -> Shared -> Prop}, l.length = n -> (∀ o d, o.Perm l -> Q o { s with drawn := d }) -> wpAny M A (drawOrder n l) Q E s := by
 intro n
 induction n with
 | zero =>
  intro l s Q hl h
  have e : l = [] := List.eq_nil_of_length_eq_zero hl
  subst e
  unfold drawOrder
  exact wpAny_pure (h [] s.drawn (List.Perm.refl _))
 | succ n ih =>
  intro l s Q hl h
  cases l with
  | nil => cases hl
  | cons a r =>
   unfold drawOrder
   refine wpAny_bind (qe1m (by simp) fun i d hi => ?_)
   have he : (a :: r)[i]? = some (a :: r)[i] := List.getElem?_eq_getElem hi
   rw [he]
   refine wpAny_bind (ih _ _ (by rw [List.length_eraseIdx_of_lt hi]; omega) fun o d' hp => ?_)
   exact wpAny_pure (h _ d' ((List.Perm.cons _ hp).trans (qc1n he)))
end
noncomputable abbrev itO (first : Value) (i : Nat) (S : Addr) (n ep : Nat) : Obj := { cls := .type "set_iterator", dict := none, data := .fields #[first, rawInt ((i : Nat) : Int), .ref S, rawInt ((n : Nat) : Int), rawInt ((ep : Nat) : Int)], slots := #[] }
theorem slot_next : Slot "set_iterator" "__next__" "set_iterator.__next__" :=
 .of (n := "__next__") (owner := "set_iterator") (by rw [typeLookup_type, builtinLookup_eq_fast]; kernel_rfl) (by decide +kernel) (by decide +kernel) (by decide +kernel) (by first | exact .inl (by decide +kernel) | exact .inr (by decide +kernel)) (by rw [isSubtype_type]; kernel_rfl)
theorem entry_next : entryFor table "set_iterator.__next__" = some Builtin.«set_iterator.__next__» := entryFor_of_tree (by kernel_rfl)
theorem args_next (a : Value) : argsOk "set_iterator.__next__" ⟨[a], []⟩ := by unfold argsOk; kernel_rfl
theorem qc6v : Slot "set_iterator" "__iter__" "set_iterator.__iter__" :=
 .of (n := "__iter__") (owner := "set_iterator") (by rw [typeLookup_type, builtinLookup_eq_fast]; kernel_rfl) (by decide +kernel) (by decide +kernel) (by decide +kernel) (by first | exact .inl (by decide +kernel) | exact .inr (by decide +kernel)) (by rw [isSubtype_type]; kernel_rfl)
theorem qe1n : entryFor table "set_iterator.__iter__" = some Builtin.«dict_keyiterator.__iter__» :=
 entryFor_alias (id' := "dict_keyiterator.__iter__") (by kernel_rfl) rfl (by decide +kernel) (by kernel_rfl)
theorem qe4f (a : Value) : argsOk "set_iterator.__iter__" ⟨[a], []⟩ := by unfold argsOk; kernel_rfl
theorem qd0o : entryFor table "set.__iter__" = some Builtin.«frozenset.__iter__» :=
 entryFor_alias (id' := "frozenset.__iter__") (by kernel_rfl) rfl (by decide +kernel) (by kernel_rfl)
section
variable {prog : Program} {w : World} {A : Around} {E : Value -> Shared -> Prop} {s : Shared} {I S : Addr} {es : Array (Int × Value)} {ep i n : Nat} {t : SetTable} {first : Value}
theorem qb1b {Q : Bool -> Shared -> Prop} (h : Q (w.params.followText "set-order") s) : wpAny (model prog w) A setsByText Q E s := wpAny_bind (wpAny_askSetting (wpAny_pure h))
theorem qc3i (ho : s.heap.get? S = some (setO es ep t)) (hf : t.fits es.size = true) (hb : w.params.followText "set-order" = true) {slot : Nat} {Q : Option (Value × Nat) -> Shared -> Prop} (h : Q (((pickOrder (w.params.setOrder S ep) es)[i]?).map fun e => (e.2, slot)) s) : wpAny (model prog w) A (setNext S slot i ep) Q E s := by
 unfold setNext
 refine wpAny_bind (wpAny_setState_of ho rfl hf ?_)
 dsimp only
 refine wpAny_bind (qb1b ?_)
 rw [hb, if_pos rfl]
 rw [if_neg (show ¬ ((ep != ep) = true) by simp)]
 refine wpAny_bind ?_
 unfold setWalk
 refine wpAny_bind (wpAny_setState_of ho rfl hf ?_)
 dsimp only
 refine wpAny_bind (qb1b ?_)
 rw [hb, if_pos rfl]
 exact wpAny_bind (wpAny_askSetting (wpAny_pure (wpAny_pure h)))
theorem qc0q (ho : s.heap.get? S = some (setO es ep t)) (hf : t.fits es.size = true) (hb : w.params.followText "set-order" = false) (hl : t.led = true) (hd : (!t.plain && decide (es.size > 1)) = false) {slot : Nat} {Q : Option (Value × Nat) -> Shared -> Prop} (h : Q (match es[SetTable.below t.place slot]?, t.place[SetTable.below t.place slot]? with | some (_, x), some j => some (x, j + 1) | _, _ => none) s) : wpAny (model prog w) A (setNext S slot i ep) Q E s := by
 unfold setNext
 refine wpAny_bind (wpAny_setState_of ho rfl hf ?_)
 dsimp only
 refine wpAny_bind (qb1b ?_)
 rw [hb, if_neg Bool.false_ne_true]
 split
 ·rename_i q
  have q' : (!t.plain && decide (es.size > 1)) = true := q
  rw [hd] at q'; cases q'
 ·refine wpAny_bind ?_
  show wpAny _ _ (if (!t.led && !es.isEmpty) = true then _ else _) _ _ _
  rw [if_neg (by rw [hl]; simp)]
  exact wpAny_pure (wpAny_pure h)
theorem qd0p {f nx : Nat} {x : Value} {Q : Option Value -> Shared -> Prop} (hi : s.heap.get? I = some (itO (rawInt ((f : Nat) : Int)) i S es.size ep)) (ho : s.heap.get? S = some (setO es ep t)) (hf : t.fits es.size = true)
  (hN : ∀ {A' : Around} {E' : Value -> Shared -> Prop} {Q' : Option (Value × Nat) -> Shared -> Prop}, Q' (some (x, nx)) s -> wpAny (model prog w) A' (setNext S f i ep) Q' E' s)
  (hQ : ∀ h', h'.get? I = some (itO (rawInt ((nx : Nat) : Int)) (i + 1) S es.size ep) -> Heap.SameBut I s.heap h' -> Q (some x) { s with heap := h' }) : wpAny (model prog w) A (pyNext (.ref I)) Q E s := by
 have ty : s.TypeIs (.ref I) "set_iterator" := ⟨_, hi, rfl⟩
 unfold pyNext
 refine wpAny_bind (wpAny_attempt (wpAny_callSpecial?_slot (name := Str.ofString "__next__") ty slot_next (wpAny_call_entry slot_next ty entry_next ?_ (args_next _))))
 unfold Builtin.«set_iterator.__next__»
 refine wpAny_bind (m := slotArgs _ _ _) (wpAny_pure (wpAny_bind (wpAny_fieldsOf hi rfl ?_)))
 show wpAny _ _ (setEntries S >>= _) _ _ s
 refine wpAny_bind (wpAny_setEntries_of ho rfl hf ?_)
 rw [if_neg (show ¬ ((((es.size : Nat) : Int) != ((es.size : Nat) : Int)) = true) by simp)]
 show wpAny _ _ (setNext S (Int.toNat ((f : Nat) : Int)) (Int.toNat ((i : Nat) : Int)) (Int.toNat ((ep : Nat) : Int)) >>= _) _ _ s
 rw [Int.toNat_natCast, Int.toNat_natCast, Int.toNat_natCast]
 refine wpAny_bind (hN ?_)
 refine wpAny_bind (wpAny_setField_rec hi (by simp) fun h1 e1 s1 => ?_)
 refine wpAny_bind (wpAny_setField_rec e1 (by simp) fun h2 e2 s2 => ?_)
 refine wpAny_pure ⟨_, rfl, wpAny_pure (hQ h2 ?_ (s1.trans s2))⟩
 rw [e2]
 simp [rawInt]
theorem qd0q {f : Nat} {Q : Option Value -> Shared -> Prop} (hh : A.handled = none) (hi : s.heap.get? I = some (itO (rawInt ((f : Nat) : Int)) i S es.size ep)) (ho : s.heap.get? S = some (setO es ep t)) (hf : t.fits es.size = true)
  (hN : ∀ {A' : Around} {E' : Value -> Shared -> Prop} {Q' : Option (Value × Nat) -> Shared -> Prop}, Q' none s -> wpAny (model prog w) A' (setNext S f i ep) Q' E' s)
  (hQ : ∀ h', Heap.ExtBut I s.heap h' -> Q none { s with heap := h' }) : wpAny (model prog w) A (pyNext (.ref I)) Q E s := by
 have ty : s.TypeIs (.ref I) "set_iterator" := ⟨_, hi, rfl⟩
 unfold pyNext
 refine wpAny_bind (wpAny_attempt (wpAny_callSpecial?_slot (name := Str.ofString "__next__") ty slot_next (wpAny_call_entry slot_next ty entry_next ?_ (args_next _))))
 unfold Builtin.«set_iterator.__next__»
 refine wpAny_bind (m := slotArgs _ _ _) (wpAny_pure (wpAny_bind (wpAny_fieldsOf hi rfl ?_)))
 show wpAny _ _ (setEntries S >>= _) _ _ s
 refine wpAny_bind (wpAny_setEntries_of ho rfl hf ?_)
 rw [if_neg (show ¬ ((((es.size : Nat) : Int) != ((es.size : Nat) : Int)) = true) by simp)]
 show wpAny _ _ (setNext S (Int.toNat ((f : Nat) : Int)) (Int.toNat ((i : Nat) : Int)) (Int.toNat ((ep : Nat) : Int)) >>= _) _ _ s
 rw [Int.toNat_natCast, Int.toNat_natCast, Int.toNat_natCast]
 refine wpAny_bind (hN ?_)
 refine wpAny_bind (wpAny_setField hi rfl (by simp) ?_)
 show wpAny _ _ (newExc (.type "StopIteration") [] >>= _) _ _ _
 refine wpAny_bind ?_
 simp only [newTuple, newExc]
 refine wpAny_bind (wpAny_newObj_type (wpAny_bind (m := firstArgMember _ _) (wpAny_of_eq (a := Value.none) (by first | rfl | (simp only [firstArgMember]; rfl)) ?_)) (by size_fits))
 refine wpAny_newObj_type ?_ (by size_fits)
 simp only [raiseNew]
 refine wpAny_bind (wpAny_handled ?_)
 rw [show A.in1.handled = none from hh]
 refine wpAny_bind (wpAny_pure (wpAny_throw ?_)); refine wpAny_bind (wpAny_isInstance (T := "StopIteration") (b := true) ⟨_, Heap.get?_push_size _ rfl, rfl⟩ isSubtype_stop ?_)
 exact wpAny_pure (hQ _ (((Heap.SameBut.update ..).extBut.push _).push _))
theorem qe1o {P : Addr} {order : List Nat} {j c : Nat} {x : Value} {hx : Int} {Q : Option Value -> Shared -> Prop} (hi : s.heap.get? I = some (itO (.ref P) i S es.size ep)) (hP : s.heap.get? P = some ⟨.type "tuple", none, .seq (order.map fun (k : Nat) => rawInt k).toArray c, #[]⟩) (ho : s.heap.get? S = some (setO es ep t)) (hf : t.fits es.size = true)
  (hj : order[i]? = some j) (he : es[j]? = some (hx, x))
  (hQ : ∀ h', h'.get? I = some (itO (.ref P) (i + 1) S es.size ep) -> Heap.SameBut I s.heap h' -> Q (some x) { s with heap := h' }) : wpAny (model prog w) A (pyNext (.ref I)) Q E s := by
 have ty : s.TypeIs (.ref I) "set_iterator" := ⟨_, hi, rfl⟩
 unfold pyNext
 refine wpAny_bind (wpAny_attempt (wpAny_callSpecial?_slot (name := Str.ofString "__next__") ty slot_next (wpAny_call_entry slot_next ty entry_next ?_ (args_next _))))
 unfold Builtin.«set_iterator.__next__»
 refine wpAny_bind (m := slotArgs _ _ _) (wpAny_pure (wpAny_bind (wpAny_fieldsOf hi rfl ?_)))
 show wpAny _ _ (setEntries S >>= _) _ _ s
 refine wpAny_bind (wpAny_setEntries_of ho rfl hf ?_)
 rw [if_neg (show ¬ ((((es.size : Nat) : Int) != ((es.size : Nat) : Int)) = true) by simp)]
 show wpAny _ _ (seqItems? (.ref P) >>= _) _ _ s
 refine wpAny_bind (wpAny_seqItems hP rfl ?_)
 show wpAny _ _ (match (order.map fun (k : Nat) => rawInt k).toArray[Int.toNat ((i : Nat) : Int)]? with | some (.int place _) => _ | some _ => _ | none => _) _ _ s
 rw [Int.toNat_natCast, List.getElem?_toArray, List.getElem?_map, hj]
 show wpAny _ _ (setNextDrawn S (Int.toNat ((j : Nat) : Int)) (Int.toNat ((ep : Nat) : Int)) >>= _) _ _ s
 rw [Int.toNat_natCast, Int.toNat_natCast]
 unfold setNextDrawn
 refine wpAny_bind (wpAny_bind (wpAny_setState_of ho rfl hf ?_))
 dsimp only
 rw [if_neg (show ¬ ((ep != ep) = true) by simp), he]
 refine wpAny_pure (wpAny_bind (wpAny_setField_rec hi (by simp) fun h2 e2 s2 => ?_))
 refine wpAny_pure ⟨_, rfl, wpAny_pure (hQ h2 ?_ s2)⟩
 rw [e2]
 simp [rawInt]
theorem qe1p {P : Addr} {order : List Nat} {c : Nat} {Q : Option Value -> Shared -> Prop} (hh : A.handled = none) (hi : s.heap.get? I = some (itO (.ref P) i S es.size ep)) (hP : s.heap.get? P = some ⟨.type "tuple", none, .seq (order.map fun (k : Nat) => rawInt k).toArray c, #[]⟩) (ho : s.heap.get? S = some (setO es ep t)) (hf : t.fits es.size = true)
  (hj : order[i]? = none)
  (hQ : ∀ h', Heap.ExtBut I s.heap h' -> Q none { s with heap := h' }) : wpAny (model prog w) A (pyNext (.ref I)) Q E s := by
 have ty : s.TypeIs (.ref I) "set_iterator" := ⟨_, hi, rfl⟩
 unfold pyNext
 refine wpAny_bind (wpAny_attempt (wpAny_callSpecial?_slot (name := Str.ofString "__next__") ty slot_next (wpAny_call_entry slot_next ty entry_next ?_ (args_next _))))
 unfold Builtin.«set_iterator.__next__»
 refine wpAny_bind (m := slotArgs _ _ _) (wpAny_pure (wpAny_bind (wpAny_fieldsOf hi rfl ?_)))
 show wpAny _ _ (setEntries S >>= _) _ _ s
 refine wpAny_bind (wpAny_setEntries_of ho rfl hf ?_)
 rw [if_neg (show ¬ ((((es.size : Nat) : Int) != ((es.size : Nat) : Int)) = true) by simp)]
 show wpAny _ _ (seqItems? (.ref P) >>= _) _ _ s
 refine wpAny_bind (wpAny_seqItems hP rfl ?_)
 show wpAny _ _ (match (order.map fun (k : Nat) => rawInt k).toArray[Int.toNat ((i : Nat) : Int)]? with | some (.int place _) => _ | some _ => _ | none => _) _ _ s
 rw [Int.toNat_natCast, List.getElem?_toArray, List.getElem?_map, hj]
 refine wpAny_bind (wpAny_setField_rec hi (by simp) fun h1 e1 s1 => ?_)
 refine wpAny_bind (wpAny_setField e1 rfl (by simp) ?_)
 show wpAny _ _ (newExc (.type "StopIteration") [] >>= _) _ _ _
 refine wpAny_bind ?_
 simp only [newTuple, newExc]
 refine wpAny_bind (wpAny_newObj_type (wpAny_bind (m := firstArgMember _ _) (wpAny_of_eq (a := Value.none) (by first | rfl | (simp only [firstArgMember]; rfl)) ?_)) (by size_fits))
 refine wpAny_newObj_type ?_ (by size_fits)
 simp only [raiseNew]
 refine wpAny_bind (wpAny_handled ?_)
 rw [show A.in1.handled = none from hh]
 refine wpAny_bind (wpAny_pure (wpAny_throw ?_)); refine wpAny_bind (wpAny_isInstance (T := "StopIteration") (b := true) ⟨_, Heap.get?_push_size _ rfl, rfl⟩ isSubtype_stop ?_)
 exact wpAny_pure (hQ _ (((s1.trans (Heap.SameBut.update ..)).extBut.push _).push _))
theorem qc1o {Q : Value -> Shared -> Prop} (hi : s.heap.get? I = some (itO first i S n ep)) (h : Q (.ref I) s) : wpAny (model prog w) A (pyIter (.ref I)) Q E s := by
 have ty : s.TypeIs (.ref I) "set_iterator" := ⟨_, hi, rfl⟩
 refine wpAny_pyIter_slot ty qc6v (wpAny_call_entry qc6v ty qe1n ?_ (qe4f _))
 show wpAny _ _ (ret (.ref I)) _ _ s
 exact wpAny_pure ⟨_, rfl, "set_iterator", _, ty, slot_next.lookup, h⟩
end
end Sx
end
section
namespace Sx
open PySem
noncomputable def slotAt (pl : Array Nat) : Nat -> Nat
 | 0 => 0
 | i + 1 => pl.getD i 0 + 1
theorem qc3j {pl : Array Nat} (up : Up pl) {i : Nat} (h : i <= pl.size) : SetTable.below pl (slotAt pl i) = i := by
 cases i with
 | zero => exact qe1h up
 | succ i =>
  have hi : i < pl.size := by omega
  show SetTable.below pl (pl.getD i 0 + 1) = i + 1
  rw [Array.getD_eq_getD_getElem?, Array.getElem?_eq_getElem hi]
  exact qe1g up hi
section
variable {prog : Program} {w : World} {A : Around} {I S : Addr} {es : Array (Int × Value)} {ep : Nat} {t : SetTable}
theorem w_text (hh : A.handled = none) (hne : S ≠ I) (hf : t.fits es.size = true) (hb : w.params.followText "set-order" = true) :
  Walks prog w A I [I, S] [I] es.size (fun i v => ((pickOrder (w.params.setOrder S ep) es).toList.map (·.2))[i]? = some v) (fun i h => h.get? I = some (itO (rawInt (((0 : Nat) : Nat) : Int)) i S es.size ep) /\ h.get? S = some (setO es ep t)) := by
 have sz : (pickOrder (w.params.setOrder S ep) es).size = es.size := by rw [← Array.length_toList, (qb8m _ es).length_eq, Array.length_toList]
 refine ⟨fun b hb => by simp at hb; simp [hb], fun i h h' st k => ⟨k I (by simp) _ st.1, k S (by simp) _ st.2⟩, fun i s Q E hi st hQ => ?_, fun s Q E st hQ => ?_, fun i s Q E st hQ => qc1o st.1 hQ⟩
 ·have hlt : i < (pickOrder (w.params.setOrder S ep) es).size := by omega
  refine qd0p (nx := 0) (x := ((pickOrder (w.params.setOrder S ep) es)[i]).2) st.1 st.2 hf (fun {A' E' Q'} q => qc3i st.2 hf hb (by rw [Array.getElem?_eq_getElem hlt]; exact q)) fun h' j1 j2 => ?_
  exact hQ _ h' s.toks (by rw [List.getElem?_map, Array.getElem?_toList, Array.getElem?_eq_getElem hlt]; rfl) ⟨j1, j2.extBut _ _ hne st.2⟩ fun b o hb e => j2.extBut b o (fun h => hb (by simp [h])) e
 ·refine qd0q hh st.1 st.2 hf (fun {A' E' Q'} q => qc3i st.2 hf hb (by rw [Array.getElem?_eq_none (by omega)]; exact q)) fun h' j => ?_
  exact hQ h' s.toks fun b o hb e => j b o (fun h => hb (by simp [h])) e
theorem w_place (hh : A.handled = none) (hne : S ≠ I) (hf : t.fits es.size = true) (ok : TOk t) (hb : w.params.followText "set-order" = false) (hl : t.led = true) (hd : (!t.plain && decide (es.size > 1)) = false) :
  Walks prog w A I [I, S] [I] es.size (fun i v => (es.toList.map (·.2))[i]? = some v) (fun i h => h.get? I = some (itO (rawInt ((slotAt t.place i : Nat) : Int)) i S es.size ep) /\ h.get? S = some (setO es ep t)) := by
 have sz : t.place.size = es.size := by
  unfold SetTable.fits at hf
  simp at hf
  exact hf.1
 have up := up_of ok.up
 refine ⟨fun b hb => by simp at hb; simp [hb], fun i h h' st k => ⟨k I (by simp) _ st.1, k S (by simp) _ st.2⟩, fun i s Q E hi st hQ => ?_, fun s Q E st hQ => ?_, fun i s Q E st hQ => qc1o st.1 hQ⟩
 ·have hp : i < t.place.size := by omega
  refine qd0p (nx := slotAt t.place (i + 1)) (x := (es[i]).2) st.1 st.2 hf (fun {A' E' Q'} q => qc0q st.2 hf hb hl hd ?_) fun h' j1 j2 => ?_
  ·rw [qc3j up (by omega), Array.getElem?_eq_getElem hi, Array.getElem?_eq_getElem hp]
   have e : slotAt t.place (i + 1) = t.place[i] + 1 := by
    show t.place.getD i 0 + 1 = _
    rw [Array.getD_eq_getD_getElem?, Array.getElem?_eq_getElem hp]; rfl
   rw [e] at q
   exact q
  ·exact hQ _ h' s.toks (by rw [List.getElem?_map, Array.getElem?_toList, Array.getElem?_eq_getElem hi]; rfl) ⟨j1, j2.extBut _ _ hne st.2⟩ fun b o hb e => j2.extBut b o (fun h => hb (by simp [h])) e
 ·refine qd0q hh st.1 st.2 hf (fun {A' E' Q'} q => qc0q st.2 hf hb hl hd ?_) fun h' j => ?_
  ·rw [qc3j up (by omega), Array.getElem?_eq_none (by omega)]
   exact q
  ·exact hQ h' s.toks fun b o hb e => j b o (fun h => hb (by simp [h])) e
noncomputable def valAt (es : Array (Int × Value)) (k : Nat) : Value := ((es[k]?).map (·.2)).getD .none
theorem qe1q (es : Array (Int × Value)) : (List.range es.size).map (valAt es) = es.toList.map (·.2) := by
 apply List.ext_getElem
 ·simp
 ·intro i h1 h2
  simp at h1
  simp [valAt, h1]
theorem w_drawn {P : Addr} {order : List Nat} {c : Nat} (hh : A.handled = none) (hne : S ≠ I) (hnP : P ≠ I) (hf : t.fits es.size = true) (ho : order.Perm (List.range es.size)) :
  Walks prog w A I [I, S, P] [I] es.size (fun i v => (order.map (valAt es))[i]? = some v) (fun i h => h.get? I = some (itO (.ref P) i S es.size ep) /\ h.get? S = some (setO es ep t) /\ h.get? P = some ⟨.type "tuple", none, .seq (order.map fun (k : Nat) => rawInt k).toArray c, #[]⟩) := by
 have sz : order.length = es.size := by rw [ho.length_eq, List.length_range]
 refine ⟨fun b hb => by simp at hb; simp [hb], fun i h h' st k => ⟨k I (by simp) _ st.1, k S (by simp) _ st.2.1, k P (by simp) _ st.2.2⟩, fun i s Q E hi st hQ => ?_, fun s Q E st hQ => ?_, fun i s Q E st hQ => qc1o st.1 hQ⟩
 ·have hp : i < order.length := by omega
  have hj : order[i] < es.size := by
   have := ho.mem_iff.mp (List.getElem_mem hp)
   simpa using this
  refine qe1o (j := order[i]) (hx := (es[order[i]]).1) (x := (es[order[i]]).2) st.1 st.2.2 st.2.1 hf (List.getElem?_eq_getElem hp) (Array.getElem?_eq_getElem hj) fun h' j1 j2 => ?_
  refine hQ _ h' s.toks ?_ ⟨j1, j2.extBut _ _ hne st.2.1, j2.extBut _ _ hnP st.2.2⟩ fun b o hb e => j2.extBut b o (fun h => hb (by simp [h])) e
  rw [List.getElem?_map, List.getElem?_eq_getElem hp]
  simp [valAt, hj]
 ·refine qe1p hh st.1 st.2.2 st.2.1 hf (List.getElem?_eq_none (by omega)) fun h' j => ?_
  exact hQ h' s.toks fun b o hb e => j b o (fun h => hb (by simp [h])) e
end
section
variable {prog : Program} {w : World} {A : Around} {E : Value -> Shared -> Prop} {s : Shared} {S : Addr} {es : Array (Int × Value)} {ep : Nat} {t : SetTable}
theorem qe6k (ho : s.heap.get? S = some (setO es ep t)) (hf : t.fits es.size = true) (ok : TOk t) (hl : t.led = !w.params.followText "set-order") (hz : es.size <= 4096) {Q : Value -> Shared -> Prop}
  (h : ∀ (s' : Shared) (I : Addr) (fp : List Addr) (out : List Value) (St : Nat -> Heap -> Prop), out.Perm (es.toList.map (·.2)) -> out.length = es.size -> I ∈ fp -> (∀ b ∈ fp, b = S ∨ s.heap.objs.size <= b) -> (∀ b ∈ fp, b < s'.heap.objs.size) -> s.heap.objs.size <= I ->
   (∀ A' : Around, A'.handled = none -> Walks prog w A' I fp [I] es.size (fun i v => out[i]? = some v) St) -> St 0 s'.heap -> (∀ b o, s.heap.get? b = some o -> s'.heap.get? b = some o) -> s'.gens = s.gens -> s'.os = s.os -> s'.toks = s.toks -> Q (.ref I) s') :
  wpAny (model prog w) A (pyIter (.ref S)) Q E s := by
 have ty : s.TypeIs (.ref S) "set" := ⟨_, ho, rfl⟩
 have hlt := Heap.lt_size ho
 refine wpAny_pyIter_slot ty F.slot_set_iter (wpAny_call_entry F.slot_set_iter ty qd0o ?_ (F.args_set_iter_1 _))
 unfold Builtin.«frozenset.__iter__»
 refine wpAny_bind (m := Builtin.Frozenset.slot0 _ _) (wpAny_pure (wpAny_bind (m := Builtin.Frozenset.sizeOf S) (wpAny_bind (wpAny_setEntries_of ho rfl hf (wpAny_pure ?_)))))
 refine wpAny_bind (m := setDrawn S) ?_
 unfold setDrawn
 refine wpAny_bind (wpAny_setState_of ho rfl hf ?_)
 refine wpAny_bind (qb1b ?_)
 show wpAny _ _ (pure (!w.params.followText "set-order" && (!t.plain && decide (es.size > 1)))) _ _ _
 refine wpAny_pure ?_
 have hne : S ≠ s.heap.objs.size := Nat.ne_of_lt hlt
 cases hb : w.params.followText "set-order" with
 | true =>
  rw [if_neg (by simp)]
  refine wpAny_bind (wpAny_pure (wpAny_bind (wpAny_setEpoch_of ho rfl hf ?_)))
  refine wpAny_bind (wpAny_newObj_type (wpAny_pure ⟨_, rfl, "set_iterator", _, ⟨_, Heap.get?_push_size _ rfl, rfl⟩, slot_next.lookup, ?_⟩))
  refine h _ s.heap.objs.size [s.heap.objs.size, S] _ _ ((qb8m (w.params.setOrder S ep) es).map (·.2)) (by rw [List.length_map, (qb8m _ es).length_eq, Array.length_toList]) (by simp) (fun b hb => ?_) (fun b hb => ?_) (Nat.le_refl _) (fun A' hA => w_text hA hne hf hb) ⟨Heap.get?_push_size _ rfl, Heap.get?_push_of_some _ ho⟩ (fun b o e => Heap.get?_push_of_some _ e) rfl rfl rfl
  ·simp at hb; rcases hb with rfl | rfl
   ·exact .inr (Nat.le_refl _)
   ·exact .inl rfl
  ·show b < (s.heap.push _).objs.size
   rw [Heap.size_push]; simp at hb; rcases hb with rfl | rfl
   ·exact Nat.lt_succ_self _
   ·exact Nat.lt_succ_of_lt hlt
 | false =>
  cases hd : (!t.plain && decide (es.size > 1)) with
  | false =>
   rw [if_neg (by simp)]
   refine wpAny_bind (wpAny_pure (wpAny_bind (wpAny_setEpoch_of ho rfl hf ?_)))
   refine wpAny_bind (wpAny_newObj_type (wpAny_pure ⟨_, rfl, "set_iterator", _, ⟨_, Heap.get?_push_size _ rfl, rfl⟩, slot_next.lookup, ?_⟩))
   refine h _ s.heap.objs.size [s.heap.objs.size, S] _ _ (List.Perm.refl _) (by simp) (by simp) (fun b hb => ?_) (fun b hb => ?_) (Nat.le_refl _) (fun A' hA => w_place hA hne hf ok hb (by rw [hl, hb]; rfl) hd) ⟨Heap.get?_push_size _ rfl, Heap.get?_push_of_some _ ho⟩ (fun b o e => Heap.get?_push_of_some _ e) rfl rfl rfl
   ·simp at hb; rcases hb with rfl | rfl
    ·exact .inr (Nat.le_refl _)
    ·exact .inl rfl
   ·show b < (s.heap.push _).objs.size
    rw [Heap.size_push]; simp at hb; rcases hb with rfl | rfl
    ·exact Nat.lt_succ_self _
    ·exact Nat.lt_succ_of_lt hlt
  | true =>
   rw [if_pos (by simp)]
   refine wpAny_bind (qe6j _ _ _ List.length_range fun o d hp => wpAny_bind (wpAny_newTuple ?_ (by
    rw [List.length_map, hp.length_eq, List.length_range]
    exact Nat.le_trans hz (by decide))))
   refine wpAny_bind (wpAny_setEpoch_of (Heap.get?_push_of_some _ ho) rfl hf ?_)
   refine wpAny_bind (wpAny_newObj_type (wpAny_pure ⟨_, rfl, "set_iterator", _, ⟨_, Heap.get?_push_size _ rfl, rfl⟩, slot_next.lookup, ?_⟩))
   have e1 : ∀ ob : Obj, (s.heap.push ob).objs.size = s.heap.objs.size + 1 := fun ob => Heap.size_push ..
   show Q (.ref (s.heap.push _).objs.size) _
   rw [e1]
   refine h _ (s.heap.objs.size + 1) [s.heap.objs.size + 1, S, s.heap.objs.size] (o.map (valAt es)) _ ((hp.map _).trans (by rw [qe1q])) (by rw [List.length_map, hp.length_eq, List.length_range]) (by simp) (fun b hb => ?_) (fun b hb => ?_) (Nat.le_succ _) (fun A' hA => w_drawn hA (Nat.ne_of_lt (Nat.lt_succ_of_lt hlt)) (Nat.ne_of_lt (Nat.lt_succ_self _)) hf hp) ⟨by rw [← e1]; exact Heap.get?_push_size _ rfl, Heap.get?_push_of_some _ (Heap.get?_push_of_some _ ho), Heap.get?_push_of_some _ (Heap.get?_push_size _ rfl)⟩ (fun b o e => Heap.get?_push_of_some _ (Heap.get?_push_of_some _ e)) rfl rfl rfl
   ·simp at hb; rcases hb with rfl | rfl | rfl
    ·exact .inr (Nat.le_succ _)
    ·exact .inl rfl
    ·exact .inr (Nat.le_refl _)
   ·show b < ((s.heap.push _).push _).objs.size
    rw [Heap.size_push, e1]; simp at hb; rcases hb with rfl | rfl | rfl
    ·exact Nat.lt_succ_self _
    ·exact Nat.lt_succ_of_lt (Nat.lt_succ_of_lt hlt)
    ·exact Nat.lt_succ_of_lt (Nat.lt_succ_self _)
end
end Sx
end
section
namespace Sx
open PySem
section
variable {prog : Program} {w : World} {A : Around} {E : Value -> Shared -> Prop} {s : Shared} {S : Addr} {es : Array (Int × Value)} {ep : Nat} {t : SetTable}
noncomputable abbrev nilO : Obj := { cls := .type "list", data := .seq ([] : List Value).toArray }
theorem qe4g (hh : A.handled = none) (ho : s.heap.get? S = some (setO es ep t)) (hf : t.fits es.size = true) (ok : TOk t) (hl : t.led = !w.params.followText "set-order") (hz : es.size <= 4096) {Q : List Value -> Shared -> Prop}
  (h : ∀ (s' : Shared) (out : List Value), out.Perm (es.toList.map (·.2)) -> (∀ b o, s.heap.get? b = some o -> s'.heap.get? b = some o) -> s'.gens = s.gens -> s'.os = s.os -> Q out s') :
  wpAny (model prog w) A (collect (.ref S)) Q E s := by
 unfold collect
 refine wpAny_bind (wpAny_runValue (codeAny_builtin F.entry_proto_collect ?_)); rw [Around.under_plainId F.plain_proto_collect _]
 show wpAny _ A.in1 (newList [] >>= fun l => again (.builtin "list.__iadd__" ⟨[l, .ref S], []⟩)) _ _ s
 refine wpAny_bind (wpAny_newObj_type (wpAny_pure ⟨plainId_quiet F.plain_list_iadd _, codeAny_builtin F.entry_list_iadd ?_⟩)); rw [Around.under_plainId F.plain_list_iadd _]
 show wpAny _ A.in1 (Builtin.List.listExtendWith (.ref s.heap.objs.size) (.ref S) (.ref s.heap.objs.size)) _ _ { s with heap := s.heap.push nilO }
 unfold Builtin.List.listExtendWith
 have hlt := Heap.lt_size ho
 have ho1 : (s.heap.push nilO).get? S = some (setO es ep t) := Heap.get?_push_of_some _ ho
 have hL1 : (s.heap.push nilO).get? s.heap.objs.size = some nilO := Heap.get?_push_size _ rfl
 have z1 : (s.heap.push nilO).objs.size = s.heap.objs.size + 1 := Heap.size_push ..
 have h1 : Builtin.List.listSameRef (.ref s.heap.objs.size) (.ref S) = false := by simp [Builtin.List.listSameRef, Nat.ne_of_gt hlt]
 refine wpAny_bind (wpAny_typeOf (T := "set") ⟨_, ho1, rfl⟩ ?_)
 rw [if_neg (by rw [h1]; decide)]
 refine wpAny_bind (qe6k ho1 hf ok hl hz fun s' I fp out St op ol hI f1 f2 f3 W st kp eg eo et => ?_)
 have ho2 := kp _ _ ho1
 have hL2 := kp _ _ hL1
 have hS : s'.TypeIs (.ref S) "set" := ⟨_, ho2, rfl⟩
 refine wpAny_bind (wpAny_holding ?_)
 unfold Builtin.List.listLengthHint
 refine wpAny_bind (wpAny_specialOf hS F.slot_set_len.lookup ?_)
 wp_delta
 refine wpAny_bind (wpAny_isInstance (b := true) hS sub_set_self ?_)
 show wpAny _ A.in1 (typeOf (Value.ref S) >>= _) _ _ _
 refine wpAny_bind (wpAny_typeOf hS (wpAny_pure ?_))
 show wpAny _ A.in1 (rule "list.extend.makes-room" >>= fun _ => Builtin.List.listTouch (.ref s.heap.objs.size) >>= fun _ => again (.builtin "list.extend.loop" ⟨[.ref s.heap.objs.size, .ref I, .ref s.heap.objs.size], []⟩)) _ _ _
 refine wpAny_bind (wpAny_rule (wpAny_bind ?_))
 show wpAny _ A.in1 (updateSeq s.heap.objs.size (·.push .none) >>= fun _ => updateSeq s.heap.objs.size (·.pop)) _ _ s'
 refine wpAny_bind (wpAny_updateSeq hL2 rfl ?_)
 have hL3 := Heap.get?_update_self (Obj.mapSeq (·.push Value.none)) hL2 rfl
 refine wpAny_updateSeq hL3 rfl ?_
 have hL4 := Heap.get?_update_self (Obj.mapSeq (·.pop)) hL3 rfl
 have nf : s.heap.objs.size ∉ fp := fun hm => by
  rcases f1 _ hm with q | q
  ·exact Nat.ne_of_gt hlt q
  ·rw [z1] at q; exact absurd q (Nat.not_succ_le_self _)
 have oth : ∀ b o, b ≠ s.heap.objs.size -> s'.heap.get? b = some o -> ((s'.heap.update s.heap.objs.size (Obj.mapSeq (·.push Value.none))).update s.heap.objs.size (Obj.mapSeq (·.pop))).get? b = some o :=
  fun b o hb e => (Heap.get?_update_other _ _ (Ne.symm hb)).trans ((Heap.get?_update_other _ _ (Ne.symm hb)).trans e)
 have W1 := W A.in1.in1 (by simp [hh])
 have Ws := W1.toS
 refine wpAny_pure ⟨plainId_quiet F.plain_extend_loop _, codeAny_extend_loopS (W A.in1 (by simp [hh])).toS (Nat.le_trans hz (by decide)) _ nf _ es.size 0 _ _ _ rfl (Nat.zero_le _)
  (Ws.frame 0 s' _ s'.toks st (Nat.le_refl _) fun b hb o e => oth b o (fun q => nf (q ▸ hb)) e) hL4 (ItemsOf.nil _) fun s2 acc c mv hS2 hacc => ?_⟩
 show wpAny _ A (load s.heap.objs.size >>= _) _ _ s2
 refine wpAny_bind (wpAny_load hS2 (wpAny_pure ?_))
 have eq : acc.toList = out := by
  apply List.ext_getElem?
  intro j
  by_cases hj : j < acc.size
  ·have q := hacc.2 j acc[j] (Array.getElem?_eq_getElem hj)
   rw [Array.getElem?_toList, Array.getElem?_eq_getElem hj]
   exact q.symm
  ·rw [Array.getElem?_toList, Array.getElem?_eq_none (by omega), List.getElem?_eq_none (by have := hacc.1; omega)]
 rw [eq]
 refine h s2 out op (fun b o e => ?_) (mv.gens.trans eg) (mv.os.trans eo)
 have hb := Heap.lt_size e
 refine mv.heap b o (fun hm => ?_) (oth b o (Nat.ne_of_lt hb) (kp _ _ (Heap.get?_push_of_some _ e)))
 rcases List.mem_cons.mp hm with q | q
 ·exact absurd hb (by rw [q]; exact Nat.lt_irrefl _)
 ·rw [List.mem_singleton] at q
  rw [z1] at f3
  exact absurd hb (by rw [q]; exact Nat.not_lt.mpr (Nat.le_trans (Nat.le_succ _) f3))
end
end Sx
end
section
namespace Sx
open PySem PySem.Spec PyProof.Rows
theorem pw_eq {α : Type} {le : α -> α -> Prop} (anti : ∀ a b, le a b -> le b a -> a = b) : ∀ {a b : List α}, a.Perm b -> a.Pairwise le -> b.Pairwise le -> a = b
 | [], b, h, _, _ => h.nil_eq
 | x :: r, [], h, _, _ => absurd h.length_eq (by simp)
 | x :: r, y :: t, h, ha, hb => by
  have e : x = y := by
   have hx : x ∈ y :: t := h.mem_iff.mp List.mem_cons_self
   have hy : y ∈ x :: r := h.mem_iff.mpr List.mem_cons_self
   rcases List.mem_cons.mp hx with q | q
   ·exact q
   ·rcases List.mem_cons.mp hy with q2 | q2
    ·exact q2.symm
    ·exact anti x y (List.rel_of_pairwise_cons ha q2) (List.rel_of_pairwise_cons hb q)
  subst e
  rw [pw_eq anti (List.Perm.cons_inv h) (List.pairwise_cons.mp ha).2 (List.pairwise_cons.mp hb).2]
noncomputable def leS (a b : Str) : Prop := a.cps.toList <= b.cps.toList
theorem leS_iff (a b : Str) : ltCps b.cps.toList a.cps.toList = false ↔ leS a b := by
 rw [ltCps_eq]; simp [leS, List.not_lt]
theorem qb8n {a b c : Str} (h1 : leS a b) (h2 : leS b c) : leS a c := List.le_trans h1 h2
theorem qb8o (a b : Str) : leS a b ∨ leS b a := List.le_total ..
theorem qd0r (a b : Str) (h1 : leS a b) (h2 : leS b a) : a = b := by
 have e := List.le_antisymm h1 h2
 cases a; cases b
 congr 1
 exact Array.ext' e
theorem qe0a : ∀ (p : Str) (l : List Str), risingS p l = true -> (p :: l).Pairwise leS
 | p, [], _ => List.pairwise_singleton _ _
 | p, x :: r, h => by
  have h' : (!ltCps x.cps.toList p.cps.toList && risingS x r) = true := h
  rw [Bool.and_eq_true] at h'
  have t := qe0a x r h'.2
  have h1 : leS p x := (leS_iff p x).mp (by simpa using h'.1)
  refine List.pairwise_cons.mpr ⟨fun y hy => ?_, t⟩
  rcases List.mem_cons.mp hy with rfl | hy
  ·exact h1
  ·exact qb8n h1 (List.rel_of_pairwise_cons t hy)
theorem qe1r : ∀ (l : List Str), sortedS l = true -> l.Pairwise leS
 | [], _ => List.Pairwise.nil
 | x :: r, h => qe0a x r h
instance (a b : Str) : Decidable (leS a b) := by unfold leS; infer_instance
noncomputable def srtS (ss : List Str) : List Str := ss.mergeSort (fun a b => decide (leS a b))
theorem qb2u (ss : List Str) : (srtS ss).Perm ss := List.mergeSort_perm ss _
theorem qe0b (ss : List Str) : (srtS ss).Pairwise leS := by
 have h := List.pairwise_mergeSort (le := fun a b : Str => decide (leS a b)) (fun a b c h1 h2 => by
  simp only [decide_eq_true_eq] at *; exact qb8n h1 h2) (fun a b => by
  rcases qb8o a b with h | h <;> simp [h]) ss
 exact h.imp fun h => by simpa using h
theorem qe0c {a ss : List Str} (h : a.Perm ss) (hp : a.Pairwise leS) : a = srtS ss :=
 pw_eq qd0r (h.trans (qb2u ss).symm) hp (qe0b ss)
section
variable {prog : Program} {w : World} {A : Around} {E : Value -> Shared -> Prop} {s : Shared} {S : Addr}
theorem decS : ∀ k v, (PySem.strKind prog w).is k v = true -> strOf v = k := fun k v h => by
 obtain ⟨t, rfl⟩ := Value.isStrOf_shape h; rfl
theorem qe4h {ss : List Str} (hh : A.handled = none) (hS : SetV (PySem.strKind prog w) strOf s.heap S ss) (h64 : ss.length < 64) {Q : Value -> Shared -> Prop}
  (h : ∀ (s' : Shared) (L : Addr) (out : List Value) (e : Nat), StrsAre out (srtS ss) -> s'.heap.get? L = some (seqObj "list" out.toArray e) -> (∀ b o, s.heap.get? b = some o -> s'.heap.get? b = some o) -> S < L -> s'.gens = s.gens -> s'.os = s.os -> Q (.ref L) s') :
  wpAny (model prog w) A (call (.builtin "sorted") [.ref S]) Q E s := by
 obtain ⟨es, ep, t, ho, F⟩ := hS
 refine Calls.call_function_entry kind_sorted plain_sorted entry_sorted (args_sorted1 _) ?_; unfold Builtin.«sorted»
 have z0 : es.size = ss.length := by have := F.pm.length_eq; simpa using this
 refine wpAny_bind (m := checkCount "sorted" 1 1 _) (wpAny_pure (wpAny_bind (qe4g (by simp [hh]) ho F.ft F.ok F.ld (by omega) fun s' out op kp eg eo => ?_)))
 have ol : out.length = ss.length := by rw [op.length_eq, List.length_map, Array.length_toList, z0]
 have hv : ∀ v ∈ out, ∃ x t, v = .str x t := fun v hv => by
  obtain ⟨e, he, rfl⟩ := List.mem_map.mp (op.mem_iff.mp hv)
  obtain ⟨⟨k, hk, _⟩, _⟩ := F.el e he
  obtain ⟨t, q⟩ := Value.isStrOf_shape hk
  exact ⟨k, t, q⟩
 have hI := strsAre_map out hv
 have hpm : (out.map strOf).Perm ss := (op.map strOf).trans (by rw [List.map_map]; exact F.pm)
 refine wpAny_bind (wpAny_newList ?_ (by rw [ol, sizeLine_eq]; omega))
 have hoL : (s'.heap.push (seqObj "list" out.toArray 0)).get? s'.heap.objs.size = some (seqObj "list" out.toArray 0) := Heap.get?_push_size _ rfl
 refine wpAny_bind (wpAny_holding (wpAny_call_entry slot_list_sort ⟨_, hoL, rfl⟩ entry_list_sort (list_sort_treeK strKind_oneLt hoL hI.keysOf (fun v₁ v₂ rest e => keyKind_strs (by rw [← e]; exact hI)) (by omega) fun st' hp hs => ⟨_, rfl, ?_⟩) (args_list_sort _)))
 obtain ⟨ss', a1, a2, a3⟩ := sorted_out_str hI hp hs
 obtain ⟨e, he⟩ := sortedHeap_at (out := (arrOf st').map (·.2)) hoL
 have eq := qe0c (a2.trans hpm) (qe1r _ a3)
 subst eq
 refine wpAny_pure ⟨_, rfl, h _ s'.heap.objs.size ((arrOf st').map (·.2)).toList e a1 he (fun b o q => ?_) (Heap.lt_size (kp _ _ ho)) eg eo⟩
 have q' := kp b o q
 have lt := Heap.lt_size q'
 show (sortedHeap _ _ _ _).get? b = some o
 rw [sortedHeap_old (Nat.ne_of_lt lt) (by rw [Heap.size_push]; exact Nat.lt_succ_of_lt lt)]
 exact Heap.get?_push_of_some _ q'
end
end Sx
end
section
namespace L2
open PySem PySem.Spec PyProof.Rows
theorem bt_set : bootBuiltins "set" = some (.type "set") := by decide +kernel
section
variable {X : Cx} {pins : List (Addr × Obj)} {σ : List (Option V)} {H : Hp} {s : Shared}
theorem Inv.dr (I : Inv X pins σ H s) (d : Drawn) : Inv X pins σ H { s with drawn := d } := ⟨I.ok, I.os, I.bare, I.base, I.loc, I.cell, I.free, I.freeC, I.pin, I.hok, I.len⟩
noncomputable def qe0d (X : Cx) (r : List V -> Hp -> VK -> Prop) : Prop := ∀ (pins : List (Addr × Obj)) (s : Shared) (σ : St) (H : Hp) (xs : List V) (us : List Value) (Q : VK), Inv X pins σ H s -> Vals xs us -> r xs H Q ->
 wpAny (model X.prog X.w) X.A (call (.type "set") us) (fun u s1 => wpAny (model X.prog X.w) X.A (call (.builtin "sorted") [u]) (EP X pins σ Q) X.xe s1) X.xe s
theorem qe1s {r : List V -> Hp -> VK -> Prop} {a : Expr} {ta : TA} {p p2 pos pos2 : Pos} (hr : qe0d X r) (hg : Gl X "set") (hm : X.mg "set" = none) (hg2 : Gl X "sorted") (hm2 : X.mg "sorted" = none) (ha : PA X [a] ta) (hs : starEach [a] X.env = (false, eval a X.env) :: starEach [] X.env := by rfl) (hs2 : (backTo pos (starEach [] X.env)).any (·.1) = false := by rfl)
  (hs3 : starEach [.Call (.Name "set" p) [a] [] pos] X.env = [(false, eval (.Call (.Name "set" p) [a] [] pos) X.env)] := by rfl) :
  PE X (.Call (.Name "sorted" p2) [.Call (.Name "set" p) [a] [] pos] [] pos2) (tCB r ta) := by
 intro pins s σ H Q I h
 refine Call_ (qb1l I hg2 hm2 qe3y (PyProof.Rows.callWith_builtin1 ?_ hs3 (by rfl)))
 rw [hs3]
 show wpAny _ _ (spliced ((false, eval (.Call (.Name "set" p) [a] [] pos) X.env) :: [])) _ _ s
 refine Calls.spliced_cons (Call_ (qb1l I hg hm bt_set (PyProof.Rows.callWith_type1 (thn (ha pos pins s σ H _ I h) fun us s1 ⟨vs, H1, I1, r1, q1⟩ => ?_) hs hs2)))
 exact thn (hr pins s1 σ H1 vs us Q I1 r1 q1) fun u s2 h2 => Calls.spliced_nil h2
noncomputable def rSetS (K : PySem.W.Frag) : List V -> Hp -> VK -> Prop := fun xs H Q => ∃ v S, ∃ ss : List Str, xs = [v] /\ (AtD K H S (.list (ss.map .str)) v ∨ AtD K H S (.tuple (ss.map .str)) v) /\ ss.length < 64 /\ ∀ p, H p = none -> Q (.ref p) (upd H p (.lst ((Sx.srtS (Sx.uniq ss)).map V.str)))
theorem qe6l (hc : X.calm = true) : qe0d X (rSetS X.K) := by
 intro pins s σ H xs us Q I rs h
 obtain ⟨v, S, ss, rfl, hd, hn, q⟩ := h
 obtain ⟨u, rfl, r⟩ := vals1 rs
 obtain ⟨a, its, e, rv, hq⟩ : ∃ a its, v = .ref a /\ Vals (ss.map V.str) its /\ (s.heap.IsList a its.toArray ∨ s.heap.IsTuple a its.toArray) := by
  rcases hd with hd | hd
  ·obtain ⟨a, ys, rfl, _, hq, t⟩ := qa6k hd
   have ey := strs_of_all t
   subst ey
   obtain ⟨its, rv, pl, hz⟩ := I.list (SqL.of hq)
   exact ⟨a, its, rfl, rv, .inl pl.isList⟩
  ·obtain ⟨a, ys, rfl, hq, t⟩ := qa5z hd
   have ey := strs_of_all t
   subst ey
   obtain ⟨its, rv, pl, hz⟩ := I.tuple hq
   exact ⟨a, its, rfl, rv, .inr pl⟩
 subst e
 cases r
 have hl : its.length = ss.length := by rw [← rv.length, List.length_map]
 refine Sx.call_v (knd := PySem.strKind X.prog X.w) (ks := ss) Sx.decS (I.ok.hd hc) hq (by rw [List.size_toArray]; omega) (by rw [List.size_toArray, hl]) (fun i w hw => ?_) fun h1 tk sv kp => ?_
 ·rw [List.getElem?_toArray] at hw
  have hi : i < its.length := (List.getElem?_eq_some_iff.mp hw).1
  have hi2 : i < ss.length := by omega
  obtain ⟨u, e1, ⟨t, ht⟩⟩ := rv.get (i := i) (x := V.str ss[i]) (by rw [List.getElem?_map, List.getElem?_eq_getElem hi2]; rfl)
  subst ht
  rw [hw] at e1
  cases e1
  exact ⟨ss[i], List.getElem?_eq_getElem hi2, by simp [PySem.strKind, Value.isStrOf], rfl⟩
 ·have hu := Sx.qd9z ss
  refine Sx.qe4h (I.ok.hd hc) sv (by omega) fun s2 L out e a1 he kp2 hlt eg eo => ?_
  have hle : ((Sx.srtS (Sx.uniq ss)).map V.str).length <= sizeLine := by
   rw [List.length_map, (Sx.qb2u _).length_eq, sizeLine_eq]; omega
  have I2 := (I.laid (a := L) (o := .lst ((Sx.srtS (Sx.uniq ss)).map V.str)) (t' := s2.toks) (h' := s2.heap) (fun b o x => kp2 _ _ (kp _ _ x)) (Nat.le_of_lt hlt) ⟨hle, out, e, qc3d a1, he⟩).dr s2.drawn
  have es : ({ s with heap := s2.heap, toks := s2.toks, drawn := s2.drawn } : Shared) = s2 := by
   cases s2; dsimp only at eg eo; subst eg eo; rfl
  rw [es] at I2
  exact ⟨.ref _, _, I2, rfl, q _ (I.hok.fresh (Nat.le_of_lt hlt))⟩
end
noncomputable def fSetS : FC := fun ds => match ds with
 | [.list xs] => (qa7j xs).bind fun ss => if ss.length < 64 then some (.list ((Sx.srtS (Sx.uniq ss)).map .str)) else none
 | [.tuple xs] => (qa7j xs).bind fun ss => if ss.length < 64 then some (.list ((Sx.srtS (Sx.uniq ss)).map .str)) else none
 | _ => none
section
variable {K : PySem.W.Frag} {H : Hp} {S : Addr -> Prop}
theorem ad_setS : AdC K (rSetS K) fSetS := by
 intro S H vs ds z Q f h e k
 unfold fSetS at e
 split at e
 ·rename_i xs
  cases q1 : qa7j xs with
  | none => rw [q1] at e; cases e
  | some ss =>
   rw [q1, Option.bind_some] at e
   split at e
   ·rename_i hl
    cases e
    obtain ⟨v, rfl, h1⟩ := h.one
    have e1 := qb2t q1
    subst e1
    exact ⟨v, Any, ss, rfl, .inl h1.any, hl, fun p hp => k _ _ (qa2y hp _) (qa5l (f p hp) qa0z qb5h)⟩
   ·cases e
 ·rename_i xs
  cases q1 : qa7j xs with
  | none => rw [q1] at e; cases e
  | some ss =>
   rw [q1, Option.bind_some] at e
   split at e
   ·rename_i hl
    cases e
    obtain ⟨v, rfl, h1⟩ := h.one
    have e1 := qb2t q1
    subst e1
    exact ⟨v, Any, ss, rfl, .inr h1.any, hl, fun p hp => k _ _ (qa2y hp _) (qa5l (f p hp) qa0z qb5h)⟩
   ·cases e
 ·cases e
end
section
variable {X : Cx} {a : Expr} {daa : TDA} {p p2 pos pos2 : Pos}
theorem de_setS (hc : X.calm = true) (hg : Gl X "set") (hm : X.mg "set" = none) (hg2 : Gl X "sorted") (hm2 : X.mg "sorted" = none) (ha : DA X [a] daa) (hs : starEach [a] X.env = (false, eval a X.env) :: starEach [] X.env := by rfl) (hs2 : (backTo pos (starEach [] X.env)).any (·.1) = false := by rfl)
  (hs3 : starEach [.Call (.Name "set" p) [a] [] pos] X.env = [(false, eval (.Call (.Name "set" p) [a] [] pos) X.env)] := by rfl) :
  DE X (.Call (.Name "sorted" p2) [.Call (.Name "set" p) [a] [] pos] [] pos2) (dCB fSetS daa) := by
 obtain ⟨ta, pa, aa⟩ := ha
 exact ⟨_, qe1s (qe6l hc) hg hm hg2 hm2 pa hs hs2 hs3, ad_cb ad_setS aa⟩
end
end L2
end
section
namespace Sx
open PySem PySem.W PyProof.Rows
section
variable {n : Nat} (hn : 0 < n)
include hn
end
section
variable {prog : Program} {w : World} {A : Around} {E : Value -> Shared -> Prop} {s : Shared}
end
end Sx
end
section
namespace L2
open PySem PySem.Spec PyProof.Rows
section
variable {prog : Program} {w : World} {A : Around} {E : Value -> Shared -> Prop} {s : Shared}
end
section
variable {K : PySem.W.Frag} {H : Hp} {S : Addr -> Prop}
end
section
variable {X : Cx}
end
section
variable {K : PySem.W.Frag}
end
theorem fSetS_t {ss : List Str} (h : ss.length < 64) : fSetS [.tuple (ss.map .str)] = some (.list ((Sx.srtS (Sx.uniq ss)).map .str)) := by
 show ((qa7j (ss.map .str)).bind fun ss => if ss.length < 64 then _ else _) = _
 rw [qc1l, Option.bind_some, if_pos h]
section
variable {X : Cx} {e : Expr} {es : List Expr} {daa : TDA} {pos : Pos}
theorem Room.units2 {k : Nat} {A : Around} (r : Room k A) : A.units + 80 < cLine := by have := r.un; omega
end
end L2
namespace Sn
instance stands : Nonempty Unit := ⟨()⟩
end Sn
end
section
namespace L2
open PySem PySem.Spec PyProof.Rows
noncomputable def fStrI : FC := fun ds => match ds with
 | [.int i] => if i.natAbs.log2 < 1920 then some (.str (toString i)) else none
 | _ => none
theorem ad_str {K : PySem.W.Frag} : AdC K (fun xs H Q => ∃ i, xs = [.int i] /\ i.natAbs.log2 < 1920 /\ Q (.str (toString i)) H) fStrI := by
 intro S H vs ds z Q f h e k
 unfold fStrI at e
 split at e
 ·rename_i i
  split at e
  ·rename_i hz
   cases e
   obtain ⟨v, rfl, h1⟩ := h.one
   rw [h1.int]
   exact ⟨i, rfl, hz, k _ _ (Same.refl _) (qa9a _)⟩
  ·cases e
 ·cases e
theorem qc6w : ∀ n : Fin 3001, (Str.ofString (toString (n.val : Int))).length <= 6 /\ (Str.ofString (toString (-(n.val : Int)))).length <= 6 := by decide +kernel
theorem qe1t {i : Int} (h1 : -3000 <= i) (h2 : i <= 3000) : (Str.ofString (toString i)).length <= 6 := by
 by_cases h : 0 <= i
 ·have := (qc6w ⟨i.toNat, by omega⟩).1
  rwa [show (((⟨i.toNat, by omega⟩ : Fin 3001).val : Nat) : Int) = i from by show ((i.toNat : Nat) : Int) = i; omega] at this
 ·have := (qc6w ⟨(-i).toNat, by omega⟩).2
  rwa [show -(((⟨(-i).toNat, by omega⟩ : Fin 3001).val : Nat) : Int) = i from by show -(((-i).toNat : Nat) : Int) = i; omega] at this
theorem fStrI_i {i : Int} (h1 : -3000 <= i) (h2 : i <= 3000) : fStrI [.int i] = some (.str (toString i)) := by
 show (if i.natAbs.log2 < 1920 then _ else _) = _
 rw [if_pos]
 have : i.natAbs.log2 <= i.natAbs := Nat.log2_le_self _
 have h3 : i.natAbs < 2 ^ 12 := by omega
 by_cases h0 : i.natAbs = 0
 ·rw [h0]; decide
 ·have := (Nat.log2_lt h0).mpr h3
  omega
end L2
end
section
namespace L2
open PySem PySem.Spec PyProof.Rows
noncomputable def Its (x : Str) : It := ⟨fun i _ => i < x.cps.size, fun i H y H' => H' = H /\ ∃ c, x.cps[i]? = some c /\ y = .str ⟨#[c]⟩, fun i _ => x.cps.size <= i⟩
theorem qe4i {P : Program} {w : World} {K : PySem.W.Frag} {tg : Expr} (it : Addr) (x : Str) (t : Tok) : Turn P w K tg (Its x) [it] it (fun i h => h.IsStrIter it "str_ascii_iterator" x t i) where
 mem := by simp
 obj := fun i h st b hb => by
  have e : b = it := by simpa using hb
  subst e
  obtain ⟨o, e, c, d⟩ := st
  exact ⟨o, e, fun v z => by rw [d] at z; cases z⟩
 keep := fun i h h' st k => let ⟨o, ho, r⟩ := st; ⟨o, k it (by simp) o ho, r⟩
 item := by
  intro X hP hw hK hc i pins s σ H E I hf st hg
  subst hP hw hK
  obtain ⟨f0, f1, f2, f3, f4, f5⟩ := hf it (by simp)
  refine (Walks.strAscii (prog := X.prog) (w := X.w) (I.ok.hd hc) it x t).item i s _ _ hg st fun v h' tk hv st' kk => ?_
  obtain ⟨c, u, hcu, rfl⟩ := hv
  have I1 : Inv X pins σ H { s with heap := h', toks := tk } := I.turned (fun b o hb e => kk b o (by simpa using hb) e) f0 f1 f3 f4 f5
  obtain ⟨o, e, c1, d⟩ := id st'
  exact ⟨_, rfl, go_of (s := { s with heap := h', toks := tk }) e c1 d (by decide) ⟨.str ⟨#[c]⟩, H, I1, ⟨u, rfl⟩, ⟨rfl, c, hcu, rfl⟩, st', fun b hb => (hf b hb).1⟩⟩
 done := by
  intro X hP hw hK hc i pins s σ H E I hf st hg
  subst hP hw hK
  obtain ⟨f0, f1, f2, f3, f4, f5⟩ := hf it (by simp)
  have hn : x.cps[i]? = none := Array.getElem?_eq_none hg
  exact wpAny_pyNext_ascii_end (I.ok.hd hc) st hn fun h' eb => ⟨rfl, I.turned (t' := s.toks) (fun b o hb e => eb b o hb e) f0 f1 f3 f4 f5⟩
 self := fun _ _ _ _ _ st h => wpAny_pyIter_striter_ascii st h
theorem qe4j {P : Program} {w : World} {K : PySem.W.Frag} {tg : Expr} (it : Addr) (x : Str) (t : Tok) : Turn P w K tg (Its x) [it] it (fun i h => h.IsStrIter it "str_iterator" x t i) where
 mem := by simp
 obj := fun i h st b hb => by
  have e : b = it := by simpa using hb
  subst e
  obtain ⟨o, e, c, d⟩ := st
  exact ⟨o, e, fun v z => by rw [d] at z; cases z⟩
 keep := fun i h h' st k => let ⟨o, ho, r⟩ := st; ⟨o, k it (by simp) o ho, r⟩
 item := by
  intro X hP hw hK hc i pins s σ H E I hf st hg
  subst hP hw hK
  obtain ⟨f0, f1, f2, f3, f4, f5⟩ := hf it (by simp)
  refine (Walks.strWide (prog := X.prog) (w := X.w) (I.ok.hd hc) it x t).item i s _ _ hg st fun v h' tk hv st' kk => ?_
  obtain ⟨c, u, hcu, rfl⟩ := hv
  have I1 : Inv X pins σ H { s with heap := h', toks := tk } := I.turned (fun b o hb e => kk b o (by simpa using hb) e) f0 f1 f3 f4 f5
  obtain ⟨o, e, c1, d⟩ := id st'
  exact ⟨_, rfl, go_of (s := { s with heap := h', toks := tk }) e c1 d (by decide) ⟨.str ⟨#[c]⟩, H, I1, ⟨u, rfl⟩, ⟨rfl, c, hcu, rfl⟩, st', fun b hb => (hf b hb).1⟩⟩
 done := by
  intro X hP hw hK hc i pins s σ H E I hf st hg
  subst hP hw hK
  obtain ⟨f0, f1, f2, f3, f4, f5⟩ := hf it (by simp)
  have hn : x.cps[i]? = none := Array.getElem?_eq_none hg
  exact wpAny_pyNext_wide_end (I.ok.hd hc) st hn fun h' eb => ⟨rfl, I.turned (t' := s.toks) (fun b o hb e => eb b o hb e) f0 f1 f3 f4 f5⟩
 self := fun _ _ _ _ _ st h => wpAny_pyIter_striter_wide st h
section
variable {X : Cx} {tg : Expr}
noncomputable def iStr (tl : TE) : TI := fun σ H R => tl σ H fun x H1 => ∃ z, x = .str z /\ R (Its z) H1
theorem pi_str {l : Expr} {tl : TE} (hl : PE X l tl) : PI X tg l (iStr tl) := by
 intro pins s σ H R I h
 refine thn (hl pins s σ H _ I h) fun v s1 ⟨x, H1, I1, r1, q1⟩ => ?_
 obtain ⟨z, rfl, q⟩ := q1
 obtain ⟨t, rfl⟩ := r1
 have fp : ∀ b ∈ [s1.heap.objs.size], FpOk X pins H1 b := fun b hb => by
  have e : b = s1.heap.objs.size := by simpa using hb
  subst e
  exact I1.fpOk (Nat.le_refl _) (I1.hok.fresh (Nat.le_refl _))
 cases ha : z.cps.all (· < 128) with
 | true => exact wpAny_pyIter_ascii ha ⟨s1.heap.objs.size, [s1.heap.objs.size], _, _, H1, rfl, I1.kept (t' := s1.toks) fun b o e => Heap.get?_push_of_some _ e, qe4i _ z t, ⟨_, Heap.get?_push_size _ rfl, rfl, rfl⟩, fp, q⟩
 | false => exact wpAny_pyIter_wide ha ⟨s1.heap.objs.size, [s1.heap.objs.size], _, _, H1, rfl, I1.kept (t' := s1.toks) fun b o e => Heap.get?_push_of_some _ e, qe4j _ z t, ⟨_, Heap.get?_push_size _ rfl, rfl, rfl⟩, fp, q⟩
end
noncomputable abbrev signs (x : Str) : List PyData := x.cps.toList.map fun c => .str ⟨#[c]⟩
noncomputable def asSt : PyData -> Option Str
 | .str x => some x
 | _ => none
theorem asSt_s {x : Str} : asSt (.str x) = some x := rfl
noncomputable def diStr (de : TDE) : TDI := fun ρ Q => de ρ fun x ρ1 => need (qa1a ρ1 x) fun d => need (asSt d) fun z => Q (signs z) ρ1
section
variable {K : PySem.W.Frag} {H : Hp} {S : Addr -> Prop}
theorem qe1u {z : Str} : qb4n K S H (Its z) (signs z) := fun S' H' P => by
 refine ⟨fun i x e => ?_, by simp [Its]⟩
 rw [List.getElem?_map, Array.getElem?_toList] at e
 obtain ⟨c, hc, rfl⟩ := Option.map_eq_some_iff.mp e
 refine ⟨(Array.getElem?_eq_some_iff.mp hc).1, fun v H'' y => ?_⟩
 obtain ⟨rfl, c', hc', rfl⟩ := y
 rw [hc] at hc'
 cases hc'
 exact ⟨Same.refl _, qa9a _⟩
theorem ai_str {t : TE} {de : TDE} (h : AdE K t de) : AdI K (iStr t) (diStr de) := fun c O ρ σ H Qd Q R q k =>
 h c O ρ σ H _ _ R q fun x ρ1 O1 v H1 h1 R1 P1 a1 => by
  obtain ⟨d, e1, h1⟩ := ne h1
  obtain ⟨z, e2, h2⟩ := ne h1
  cases d with
  | str z' =>
   cases e2
   exact ⟨z, (R1.top a1 e1).str, k _ _ _ _ _ h2 R1 P1 qe1u⟩
  | _ => cases e2
end
theorem di_str {X : Cx} {tg e : Expr} {de : TDE} (h : DE X e de) : DI X tg e (diStr de) := let ⟨_, p, a⟩ := h; ⟨_, pi_str p, ai_str a⟩
theorem qe0e {de : TDE} {ρ : Rho} {Q : List PyData -> Rho -> Prop} : diStr de ρ Q = (de ρ fun x ρ1 => need (qa1a ρ1 x) fun d => need (asSt d) fun z => Q (signs z) ρ1) := rfl
noncomputable def leC (x y : Str) : Bool := decide (x.cps.toList <= y.cps.toList)
noncomputable def rLeS : R2 := fun x y H Q => ∃ i j, x = .str i /\ y = .str j /\ Q (.bl (leC i j)) H
theorem qd0s {X : Cx} : OpR X (compareOp .LtE) rLeS := by
 intro pins s σ H x y v u Q I rx ry h
 obtain ⟨i, j, rfl, rfl, q⟩ := h
 obtain ⟨t, rfl⟩ := rx
 obtain ⟨t', rfl⟩ := ry
 refine P.le_str ⟨.bl _, H, I, ?_, q⟩
 show Value.bool _ = Value.bool (leC i j)
 congr 1
 unfold leC
 rw [Bool.eq_iff_iff]
 simp [List.not_lt]
noncomputable def fLeS : F2
 | .str i, .str j => some (.bool (leC i j))
 | _, _ => none
theorem fLeS_s {x y : Str} : fLeS (.str x) (.str y) = some (.bool (leC x y)) := rfl
theorem qd0t {K : PySem.W.Frag} : AdR K rLeS fLeS := by
 intro S H x y dx dy z Q f hx hy e k
 unfold fLeS at e
 split at e
 ·cases e
  exact ⟨_, _, hx.str, hy.str, k _ _ (Same.refl _) (qa2n _)⟩
 ·cases e
section
variable {X : Cx}
noncomputable def rAllB (K : PySem.W.Frag) : List V -> Hp -> VK -> Prop := fun xs H Q => ∃ v S, ∃ bs : List Bool, xs = [v] /\ AtD K H S (.list (bs.map .bool)) v /\ Q (.bl (bs.all id)) H
theorem bools_of_all {K : PySem.W.Frag} {H : Hp} {S : Addr -> Prop} : ∀ {bs : List Bool} {xs : List V}, qa0e K H S (bs.map .bool) xs -> xs = bs.map V.bl
 | [], xs, h => by rw [h.unnil]; rfl
 | n :: r, xs, h => by
  obtain ⟨v, vr, rfl, hd, t⟩ := h.uncons
  rw [qb1g hd, bools_of_all t]; rfl
theorem qc3k : ∀ {bs : List Bool} {us : List Value}, Vals (bs.map V.bl) us -> us = bs.map Value.bool
 | [], us, h => by rw [Vals.zero h]; rfl
 | x :: r, us, h => by
  cases h with
  | cons h1 h2 =>
   rw [qc3k h2, List.map_cons]
   congr 1
theorem qe4k (hc : X.calm = true) : qa3z X (.builtin "all") (rAllB X.K) := by
 intro pins s σ H xs us Q I rs h
 obtain ⟨v, S, bs, rfl, hd, q⟩ := h
 obtain ⟨u, rfl, r⟩ := vals1 rs
 obtain ⟨a, ys, rfl, _, hq, t⟩ := qa6k hd
 cases r
 have ey := bools_of_all t
 subst ey
 obtain ⟨its, rv, pl, hz⟩ := I.list (SqL.of hq)
 have ei := qc3k rv
 subst ei
 have la : a < s.heap.objs.size := Heap.lt_size pl.isList.choose_spec.1
 refine call_all_walk (wpAny_pyIter_list pl.isList ⟨s.heap.objs.size, _, _, _, _, _, fun i => bs.getD i true, rfl, Walks.list (by simpa using I.ok.hd hc) s.heap.objs.size a (Nat.ne_of_lt la) (bs.map Value.bool).toArray, ⟨⟨_, Heap.get?_push_size _ rfl, rfl, rfl⟩, pl.isList.push _⟩, fun i v s' Q' E' hP hQ => ?_, fun h' tk hk => ?_⟩)
 ·have hP : (bs.map Value.bool).toArray[i]? = some v := hP
  rw [List.getElem?_toArray, List.getElem?_map] at hP
  obtain ⟨b, hb, rfl⟩ := Option.map_eq_some_iff.mp hP
  have e : bs.getD i true = b := by rw [List.getD_eq_getElem?_getD, hb]; rfl
  have hQ : Q' (bs.getD i true) s' := hQ
  rw [e] at hQ
  exact wpAny_truthy_bool hQ
 ·have e : ((List.range (bs.map Value.bool).toArray.size).all fun i => bs.getD i true) = bs.all id := by
   rw [List.size_toArray, List.length_map, Bool.eq_iff_iff, List.all_eq_true, List.all_eq_true]
   constructor
   ·intro h b hb
    obtain ⟨i, hi, rfl⟩ := List.getElem_of_mem hb
    have := h i (List.mem_range.mpr hi)
    rw [List.getD_eq_getElem?_getD, List.getElem?_eq_getElem hi] at this
    exact this
   ·intro h i hi
    have hi' := List.mem_range.mp hi
    rw [List.getD_eq_getElem?_getD, List.getElem?_eq_getElem hi']
    exact h _ (List.getElem_mem hi')
  rw [e]
  refine ⟨.bl _, H, I.kept fun b o e => hk b o ?_ (Heap.get?_push_of_some _ e), rfl, q⟩
  rw [List.mem_singleton]
  exact Nat.ne_of_lt (Heap.lt_size e)
end
noncomputable def qb1z : List PyData -> Option (List Bool)
 | [] => some []
 | .bool b :: r => (qb1z r).map (b :: ·)
 | _ :: _ => none
theorem qc6x : ∀ bs : List Bool, qb1z (bs.map .bool) = some bs
 | [] => rfl
 | x :: r => by show (qb1z (r.map .bool)).map (x :: ·) = _; rw [qc6x r]; rfl
theorem qc3l : ∀ {xs : List PyData} {bs : List Bool}, qb1z xs = some bs -> xs = bs.map .bool
 | [], bs, h => by cases h; rfl
 | .bool x :: r, bs, h => by
  have h' : (qb1z r).map (x :: ·) = some bs := h
  obtain ⟨qs, h1, rfl⟩ := Option.map_eq_some_iff.mp h'
  rw [qc3l h1]; rfl
noncomputable def fAllB : FC := fun ds => match ds with
 | [.list xs] => (qb1z xs).map fun bs => .bool (bs.all id)
 | _ => none
theorem qe6m (bs : List Bool) : fAllB [.list (bs.map .bool)] = some (.bool (bs.all id)) := by
 show (qb1z (bs.map .bool)).map _ = _
 rw [qc6x]; rfl
theorem ad_allB {K : PySem.W.Frag} : AdC K (rAllB K) fAllB := by
 intro S H vs ds z Q f h e k
 unfold fAllB at e
 split at e
 ·rename_i xs
  obtain ⟨bs, q1, rfl⟩ := Option.map_eq_some_iff.mp e
  obtain ⟨v, rfl, h1⟩ := h.one
  have e1 := qc3l q1
  subst e1
  exact ⟨v, Any, bs, rfl, h1.any, k _ _ (Same.refl _) (qa2n _)⟩
 ·cases e
end L2
end
section
namespace L2
open PySem PySem.Spec PyProof.Rows
theorem qc0k (b : Str) (u : Tok) (l : Addr) (es : Array DictEntry) (n : Nat) (dd : Option Addr) (sl : Array (Option Value)) :
  Meets (Builtin.«str.__eq__» ⟨[.str b u, .ref l], []⟩) (fun _ R s => s.heap.get? l = some { cls := .type "dict", dict := dd, data := .dict es n, slots := sl } /\ R (.ok (.ret .notImplemented)) s) :=
 .of_wp fun prog w A R s h => by obtain ⟨hp, g, d, tk, os⟩ := s; obtain ⟨hl, h⟩ := h; have f1 := PySem.F.sub_dict_str; wp_walk using wpAny_loadPart' hl; exact ⟨_, rfl, h⟩
theorem qc0l (b : Str) (u : Tok) (l : Addr) (es : Array DictEntry) (n : Nat) (dd : Option Addr) (sl : Array (Option Value)) :
  Meets (Builtin.«dict.__eq__» ⟨[.ref l, .str b u], []⟩) (fun _ R s => s.heap.get? l = some { cls := .type "dict", dict := dd, data := .dict es n, slots := sl } /\ R (.ok (.ret .notImplemented)) s) :=
 .of_wp fun prog w A R s h => by obtain ⟨hp, g, d, tk, os⟩ := s; obtain ⟨hl, h⟩ := h; have f1 := PySem.F.sub_str_dict; wp_walk using wpAny_loadPart' hl; exact ⟨_, rfl, h⟩
theorem qc7h {A : Around} {s : Shared} {l : Addr} {es : Array DictEntry} {n : Nat} {dd : Option Addr} {sl : Array (Option Value)} (b : Str) (u : Tok) (ho : s.heap.get? l = some { cls := .type "dict", dict := dd, data := .dict es n, slots := sl }) (hu : A.units < cLine) : SeqAt.EqAt A s (.str b u) (.ref l) false := fun prog w E Q h => by
 unfold eqBool
 refine wpAny_holding (wpAny_ite_split (fun hab => absurd (eq_of_beq hab) nofun) (fun _ => ?_))
 refine wpAny_bind (SeqAt.rc_eq_decline_or (k := false) (typeIs_str s b u) ⟨_, ho, rfl⟩ (by decide) PySem.F.sub_dict_str PySem.F.slot_str_eq PySem.F.slot_dict_eq_refl
  (fun _ hq => call_meets PySem.F.slot_str_eq (typeIs_str s b u) PySem.F.entry_str_eq (PySem.F.args_str_eq_2 _ _) (qc0k b u l es n dd sl) ⟨ho, hq⟩)
  (fun _ hq => call_meets PySem.F.slot_dict_eq_refl ⟨_, ho, rfl⟩ PySem.F.entry_dict_eq (PySem.F.args_dict_eq_2 _ _) (qc0l b u l es n dd sl) ⟨ho, hq⟩)
  (fun _ hq => wpAny_of_eq (rfl : isSame (.str b u) (.ref l) = pure false) hq) (.inr hu) (wpAny_truthy_bool h))
section
variable {X : Cx}
noncomputable def rInN (K : PySem.W.Frag) (neg : Bool) : R2 := fun x y H Q => ∃ S d p, ∃ ss : List Str, AtD K H S d x /\ qa1o d = false /\ y = .ref p /\ (SqL K H p (ss.map V.str) ∨ SqT K H p (ss.map V.str)) /\ Q (.bl neg) H
theorem qd0u {pins : List (Addr × Obj)} {s : Shared} {σ : List (Option V)} {H : Hp} {S : Addr -> Prop} {d : PyData} {x : V} {v : Value} (I : Inv X pins σ H s) (hu : X.A.units + 64 < cLine) (hd : AtD X.K H S d x) (hf : qa1o d = false) (rx : RelV x v) (b : Str) (u : Tok) : SeqAt.EqAt X.A.in1 s (.str b u) v false := by
 have hu1 : X.A.in1.units < cLine := by show X.A.units + 1 < cLine; omega
 cases d with
 | tuple ds =>
  obtain ⟨a, ys, rfl, hq, t⟩ := qa5z hd
  cases rx
  obtain ⟨its, rv, pl, hz⟩ := I.tuple hq
  exact SeqAt.EqAt.str_tuple b u pl hu1
 | list ds =>
  obtain ⟨a, ys, rfl, _, hq, t⟩ := qa6k hd
  cases rx
  obtain ⟨its, rv, pl, hz⟩ := I.list (SqL.of hq)
  exact SeqAt.EqAt.str_list b u pl.isList hu1
 | dict kvs =>
  obtain ⟨a, ν, rfl, _, hq, _⟩ := qb1h hd
  cases rx
  obtain ⟨_, _, ws, rel, dd⟩ := dk_of I.hok hq
  obtain ⟨⟨cls, d1, data, sl⟩, es, ep, ho, hex, hdd, _⟩ := dd
  simp only at hdd
  subst hdd
  obtain ⟨h1, h2, h3⟩ := hex
  simp only at h1 h2 h3
  subst h1 h2 h3
  exact qc7h b u ho hu1
 | _ => cases hf
theorem qc7i {ss : List Str} {us : List Value} (h : Vals (ss.map V.str) us) : ∀ v ∈ us, ∃ z t, v = .str z t := fun v hv => by
 obtain ⟨i, hi, e⟩ := List.getElem_of_mem hv
 have hl : us.length = ss.length := by rw [← h.length, List.length_map]
 obtain ⟨u, e1, ⟨t, ht⟩⟩ := h.get (i := i) (x := V.str (ss[i]'(by omega))) (by rw [List.getElem?_map, List.getElem?_eq_getElem (by omega)]; rfl)
 rw [List.getElem?_eq_getElem hi, e] at e1
 cases e1
 exact ⟨_, t, ht⟩
theorem op_inN (hu : X.A.units + 64 < cLine) : OpR X (compareOp .In) (rInN X.K false) := by
 intro pins s σ H x y v u Q I rx ry h
 obtain ⟨S, d, p, ss, hd, hf, rfl, hq, q⟩ := h
 cases ry
 have key : ∀ its : List Value, Vals (ss.map V.str) its -> ∀ w ∈ its.toArray, SeqAt.EqAt X.A.in1 s w v false := fun its r w hw => by
  obtain ⟨z, t, rfl⟩ := qc7i r w (by simpa using hw)
  exact qd0u I hu hd hf rx z t
 rcases hq with hq | hq
 ·obtain ⟨its, r, pl, hz⟩ := I.list hq
  refine SeqAt.in_listAt (fun _ => false) pl.isList (key its r) ⟨.bl _, H, I, rfl, ?_⟩
  rw [show its.toArray.any (fun _ => false) = false by simp]
  exact q
 ·obtain ⟨its, r, pl, hz⟩ := I.tuple hq
  refine SeqAt.in_tupleAt (fun _ => false) pl (key its r) ⟨.bl _, H, I, rfl, ?_⟩
  rw [show its.toArray.any (fun _ => false) = false by simp]
  exact q
end
noncomputable def fInX (neg : Bool) : F2 := fun x y => if qa1o x = true then fIn neg x y else match seqD y with
 | some ys => (qa7j ys).map fun _ => .bool neg
 | none => none
theorem qc3m {neg : Bool} {x y : PyData} (h : qa1o x = true) : fInX neg x y = fIn neg x y := if_pos h
theorem qd0v {neg : Bool} {x : PyData} {ss : List Str} (h : qa1o x = false) : fInX neg x (.tuple (ss.map .str)) = some (.bool neg) := by
 unfold fInX
 rw [if_neg (by rw [h]; exact Bool.false_ne_true)]
 show (qa7j (ss.map .str)).map _ = _
 rw [qc1l]; rfl
theorem ad_inX {K : PySem.W.Frag} {neg : Bool} : AdR K (fun x y H Q => qb8i K neg x y H Q ∨ rInN K neg x y H Q) (fInX neg) := by
 intro S H x y dx dy z Q f hx hy e k
 unfold fInX at e
 split at e
 ·exact .inl (qa5w S H x y dx dy z Q f hx hy e k)
 ·rename_i hf
  right
  cases q : seqD dy with
  | none => rw [q] at e; cases e
  | some ys =>
   rw [q] at e
   obtain ⟨ss, q1, e1⟩ := Option.map_eq_some_iff.mp e
   cases e1
   have e1 := qb2t q1
   subst e1
   obtain ⟨a, vs, rfl, hs, t⟩ := hy.seq q
   have ev := strs_of_all t
   subst ev
   exact ⟨_, dx, a, ss, hx.any, by simpa using hf, rfl, hs, k _ _ (Same.refl _) (qa2n _)⟩
theorem op_inX {X : Cx} (hu : X.A.units + 64 < cLine) : OpR X (compareOp .In) (fun x y H Q => qb8i X.K false x y H Q ∨ rInN X.K false x y H Q) := qa5f.or (op_inN hu)
end L2
end
section
namespace L2
open PySem PySem.Spec PyProof.Rows
noncomputable def rSlS : V -> Option Int -> Option Int -> Hp -> VK -> Prop := fun x lo hi H Q => ∃ z, x = .str z /\ z.length <= sizeLine /\ Q (.str (Txt.slice z lo hi)) H
theorem qc6y {v : Value} {o : Option Int} (h : IsPart v o) : ∃ p : Option (Int × Tok), v = partValue p /\ p.map (·.1) = o := by
 cases h with
 | none => exact ⟨none, rfl, rfl⟩
 | int i t => exact ⟨some (i, t), rfl, rfl⟩
theorem sl_str {X : Cx} : SlR X rSlS := by
 intro pins s σ H x v vl vu lo hi sl Q I rx hs pl pu h
 obtain ⟨z, rfl, hz, q⟩ := h
 obtain ⟨t, rfl⟩ := rx
 obtain ⟨l, rfl, rfl⟩ := qc6y pl
 obtain ⟨u, rfl, rfl⟩ := qc6y pu
 obtain ⟨o, ho, hc, hd⟩ := hs
 refine ⟨"str", _, PySem.F.slot_str_getitem.lookup, typeIs_str _ _ _, wpAny_getItem_str_slice (l := l) (u := u) (st := none) ⟨o, ho, hc, hd⟩ rfl ?_⟩
 exact post_val_or_str ⟨Nat.le_trans (Txt.slice_le z _ _) hz, fun t' k => ⟨.str _, H, I.tok k, ⟨t', rfl⟩, q⟩⟩
noncomputable def fSlS : FSl
 | .str z, lo, hi => if z.length <= sizeLine then some (.str (Txt.slice z lo hi)) else none
 | _, _, _ => none
theorem fSlS_s {z : Str} {lo hi : Option Int} (h : z.length <= sizeLine) : fSlS (.str z) lo hi = some (.str (Txt.slice z lo hi)) := if_pos h
theorem ad_slS {K : PySem.W.Frag} : AdSl K rSlS fSlS := by
 intro S H x d z lo hi Q f hx e k
 unfold fSlS at e
 split at e
 ·split at e
  ·rename_i hz
   cases e
   exact ⟨_, hx.str, hz, k _ _ (Same.refl _) (qa9a _)⟩
  ·cases e
 ·cases e
theorem qc7j (l : Addr) (items : Array Value) (n : Nat) (b : Addr) (items2 : Array Value) (n2 : Nat) (hc0 : (items.size != items2.size) = true) :
  Meets (Builtin.«list.__eq__» ⟨[.ref l, .ref b], []⟩) (fun _ R s => s.heap.get? l = some ⟨.type "list", none, .seq items n, #[]⟩ /\ s.heap.get? b = some ⟨.type "list", none, .seq items2 n2, #[]⟩ /\ R (.ok (.ret (Value.bool false))) { s with heap := s.heap, toks := s.toks }) :=
 .of_wp fun prog w A R s h => by
  obtain ⟨hp, g, d, tk, os⟩ := s; obtain ⟨hl, hb, h⟩ := h; have f3 := AutoSeq1.sub_list_list
  wp_walk using wpAny_loadPart' hl, wpAny_loadPart' hb
  exact ⟨_, rfl, h⟩
section
variable {X : Cx}
noncomputable def rEqS : R2 := fun x y H Q => ∃ a b vs, x = .ref a /\ y = .ref b /\ H a = some (.lst vs) /\ vs ≠ [] /\ H b = some (.lst []) /\ Q (.bl false) H
theorem op_eqS (hu : X.A.units + 64 < cLine) : OpR X (compareOp .Eq) rEqS := by
 intro pins s σ H x y v u Q I rx ry h
 obtain ⟨a, b, vs, rfl, rfl, ha, hne, hb, q⟩ := h
 cases rx; cases ry
 obtain ⟨z, its, n, r, hl, e⟩ := I.lstM ha
 obtain ⟨z2, its2, n2, r2, hl2, e2⟩ := I.lstM hb
 have h2 : its2 = [] := r2.zero
 subst h2
 have hs : (its.toArray.size != (#[] : Array Value).size) = true := by
  cases its with
  | nil => exact absurd (List.length_eq_zero_iff.mp (by rw [hl]; rfl)) hne
  | cons _ _ => simp
 have main : wpAny (model X.prog X.w) X.A (richCompare .Eq (.ref a) (.ref b)) (EP X pins σ Q) X.xe s :=
  richCompare_meets_room (op := .Eq) ⟨_, e, rfl⟩ ⟨_, e2, rfl⟩ PySem.F.slot_list_eq PySem.F.entry_list_eq (PySem.F.args_list_eq_2 _ _) (qc7j a its.toArray n b #[] n2 hs) ⟨e, e2, by nofun, .bl false, H, I, rfl, q⟩ (by omega)
 exact main
end
noncomputable def fEqN : F2 := fun x y => match x, y with
 | .list xs, .list [] => some (.bool xs.isEmpty)
 | _, _ => none
theorem fEqN_l {xs : List PyData} : fEqN (.list xs) (.list []) = some (.bool xs.isEmpty) := rfl
theorem ad_eqN {K : PySem.W.Frag} : AdR K (fun x y H Q => rEqS x y H Q ∨ rEqD K false x y H Q) fEqN := by
 intro S H x y dx dy z Q f hx hy e k
 unfold fEqN at e
 split at e
 ·rename_i xs
  cases e
  obtain ⟨b, ws2, rfl, h3, h4⟩ := hy.list
  cases h4.unnil
  cases xs with
  | nil => exact .inr ⟨Any, Any, .list [], .list [], hx.any, hy.any, by decide, by decide, k _ _ (Same.refl _) (qa2n _)⟩
  | cons d r =>
   obtain ⟨a, ws, rfl, h1, h2⟩ := hx.list
   refine .inl ⟨a, b, ws, rfl, rfl, h1, ?_, h3, k _ _ (Same.refl _) (qa2n _)⟩
   rintro rfl
   have := h2.length
   cases this
 ·cases e
theorem sign_in (x : Str) (c : Nat) : (!(Builtin.Str.occurrences x ⟨#[c]⟩ 0 x.length 1).isEmpty) = x.cps.toList.contains c := by
 rw [Bool.eq_iff_iff, StrLaws.found_iff, List.contains_iff_mem]
 constructor
 ·rintro ⟨i, h1, h2⟩
  have h1' : i + 1 <= x.cps.size := h1
  have e : x.cps.extract i (i + 1) = #[c] := by
   unfold Builtin.Str.subAt at h2
   exact eq_of_beq h2
  have hi : i < x.cps.size := by omega
  have e2 : x.cps[i] = c := by
   have : (x.cps.extract i (i + 1))[0]? = some c := by rw [e]; rfl
   rw [Array.getElem?_extract] at this
   simp [hi] at this
   exact this.2
  rw [← e2]
  exact Array.mem_toList_iff.mpr (Array.getElem_mem hi)
 ·intro h
  obtain ⟨i, hi, e⟩ := List.getElem_of_mem h
  rw [Array.length_toList] at hi
  refine ⟨i, (show i + 1 <= x.cps.size by omega), ?_⟩
  unfold Builtin.Str.subAt
  have e2 : x.cps.extract i (i + 1) = #[c] := by
   apply Array.ext'
   rw [Array.toList_extract, List.extract_eq_take_drop]
   have ed : x.cps.toList.drop i = c :: x.cps.toList.drop (i + 1) := by rw [← e]; exact List.drop_eq_getElem_cons (by rw [Array.length_toList]; exact hi)
   rw [ed]
   simp
  show (x.cps.extract i (i + 1) == #[c]) = true
  rw [e2]
  exact beq_self_eq_true _
theorem qe6n {neg : Bool} {x : Str} {c : Nat} : fIn neg (.str ⟨#[c]⟩) (.str x) = some (.bool (if neg then !x.cps.toList.contains c else x.cps.toList.contains c)) := by
 show some (PyData.bool (if neg then !(!(Builtin.Str.occurrences x ⟨#[c]⟩ 0 x.length 1).isEmpty) else !(Builtin.Str.occurrences x ⟨#[c]⟩ 0 x.length 1).isEmpty)) = _
 rw [sign_in]
end L2
end
section
namespace L2
open PySem PySem.Spec PyProof.Rows
structure PinK (K : PySem.W.Frag) (c : Rc) (p : Addr) (ν : List (Key × FD)) (i : Nat) (O : Own) (ρ : Rho) (σ : St) (H : Hp) : Prop where
 rel : Rel K (c.reb O p H) O ρ σ H
 at_ : H p = some (.dK (ν.map gE))
 slot : σ[i]? = some (some (.ref p))
 nul : ρ[i]? = some none
 bA : ∀ j q, O j = some q -> c.A q
 bS : ∀ b o, ¬ c.M b -> c.H0 b = some o -> H b = some o
 bK : ∀ b, c.H0 b ≠ none -> H b ≠ none
 bM : ∀ q, c.M q -> ∃ vs, H q = some (.lst vs)
 am : ∀ q, c.A q -> c.M q ∨ c.H0 q = none
 frs : ∀ q, c.H0 q = none -> c.S q
 fr0 : c.H0 p = none
 np : ¬ c.P p
section
variable {K : PySem.W.Frag} {c : Rc} {O O1 : Own} {ρ ρ1 : Rho} {σ σ1 : St} {H H1 H2 : Hp} {p : Addr} {ν μ : List (Key × FD)} {i : Nat}
end
section
variable {K : PySem.W.Frag}
end
section
variable {X : Cx} {iter kE vE tg : Expr} {rest : List Stmt} {di : TDI} {dg : TDG} {dk dv : TDE} {du : TDS} {x y z : Str} {pos p1 p2 p3 p4 p5 p6 p7 p8 p9 p10 p11 p12 p13 : Pos}
end
section
variable {X : Cx}
end
end L2
end
section
namespace L2
open PySem PySem.Spec PyProof.Rows
open AutoSeq1 (wpAny_loadPart')
section
variable {X : Cx}
theorem qe1v (l b : Addr) (items items2 : Array Value) (n n2 : Nat) (dd : Option Addr) (sl : Array (Option Value)) (hs0 : ¬ (!items.isEmpty && Builtin.List.listTooLong (items.size + items2.size)) = true) (hs1 : items.size <= sizeLine) (hs2 : items.size + items2.size <= sizeLine + 1) :
  Meets (Builtin.«list.extend» ⟨[.ref l, .ref b], []⟩) (fun _ R s => s.heap.get? l = some ⟨.type "list", none, .seq items n, #[]⟩ /\ s.heap.get? b = some ⟨.type "list", dd, .seq items2 n2, sl⟩ /\ R (.ok (.ret Value.none)) { s with heap := s.heap.update l (Obj.mapSeq fun x => x ++ items2), toks := s.toks }) :=
 .of_wp fun prog w A R s h => by
  obtain ⟨hp, g, d, tk, os⟩ := s; obtain ⟨hl, hb, h⟩ := h
  have room : (items ++ items2).size <= sizeLine + 1 := Nat.le_trans (Nat.le_of_eq Array.size_append) hs2
  wp_walk using (wpAny_updateSeq hl rfl (hz := hs1) (_hz' := room)), wpAny_loadPart' hl, wpAny_loadPart' hb
  exact ⟨_, rfl, h⟩
noncomputable def rExtL (K : PySem.W.Frag) : V -> List V -> Hp -> VK -> Prop := fun x vs H Q => ∃ l b xs zs, x = .ref l /\ vs = [.ref b] /\ H l = some (.lst xs) /\ SqL K H b zs /\ xs.length + zs.length <= 1000000 /\ Q .non (upd H l (.lst (xs ++ zs)))
theorem mt_extL : MtM X "list.extend" (rExtL X.K) := by
 intro pins s σ H x vs v us Q I rx rv h
 obtain ⟨l, b, xs, zs, rfl, rfl, hH, hB, hz, q⟩ := h
 cases rx
 obtain ⟨u, rfl, ru⟩ := rv.one
 cases ru
 obtain ⟨z, its, n, r, hl, e⟩ := I.lstM hH
 obtain ⟨its2, r2, pl, z2⟩ := I.list hB
 obtain ⟨⟨oc, od, oa, os⟩, ho, hc, n2, hd⟩ := pl.isList
 simp only at hc hd
 subst hc hd
 have hl2 := r2.length
 have hsl := sizeLine_eq
 have hsz : its.toArray.size + its2.toArray.size <= sizeLine := by rw [List.size_toArray, List.size_toArray]; omega
 have hlong : ¬ (!its.toArray.isEmpty && Builtin.List.listTooLong (its.toArray.size + its2.toArray.size)) = true := by
  rw [qc8m hsz, Bool.and_false]; exact Bool.false_ne_true
 refine call_meets F.slot_list_extend ⟨_, e, rfl⟩ F.entry_list_extend (F.args_list_extend_2 _ _) (qe1v l b its.toArray its2.toArray n n2 od os hlong (by rw [List.size_toArray]; omega) (by omega)) ⟨e, ho, ?_⟩
 refine ⟨.non, _, I.lset (its' := its ++ its2) hH e (by simp) (r.append r2) ?_, rfl, q⟩
 rw [List.length_append]; omega
end
section
variable {K : PySem.W.Frag}
noncomputable def dExtL (i : Nat) (de : TDE) : TDE := fun ρ Q => need (ownB ρ i) fun _ => de ρ fun x ρ1 => need (qa1a ρ1 x) fun dx => ∃ ys, dx = .list ys /\ need (ownB ρ1 i) fun o => o.2.length + ys.length <= 1000000 /\ Q (.d .none) (ρ1.set i (some (okL o.1 (o.2 ++ ys))))
theorem ad_extL {i : Nat} {t : TE} {de : TDE} (h : AdE K t de) : AdE K (tBM K "list" (rExtL K) (tVar i) (qa7s t tNil)) (dExtL i de) := by
 intro c O ρ σ H Qd Q R q k
 obtain ⟨⟨o, xs⟩, e, q⟩ := ne q
 obtain ⟨e0, p, vs, hO, hσ, hH, hA⟩ := qa7m R e
 refine ⟨.ref p, hσ, .inl ⟨rfl, vs, SqL.of hH⟩, ?_⟩
 refine h c O ρ σ H _ _ R q fun x ρ1 O1 v H1 h1 R1 P1 a1 => ?_
 obtain ⟨dx, e1, ys, rfl, h1⟩ := ne h1
 obtain ⟨⟨o2, xs2⟩, e2, hz, h2⟩ := ne h1
 obtain ⟨b, zs, rfl, s1, s2⟩ := (R1.top a1 e1).list
 obtain ⟨e3, p2, vs2, hO2, hσ2, hH2, hA2⟩ := qa7m R1 e2
 rw [hσ] at hσ2; cases hσ2
 refine ⟨p, b, vs2, zs, rfl, rfl, hH2, SqL.of s1, by rw [hA2.length, s2.length]; exact hz, ?_⟩
 obtain ⟨R3, P3⟩ := R1.writeB hO2 hH2 e3 (hA2.append s2)
 exact k _ _ _ _ _ h2 R3 (P1.trans P3) qc1j
end
section
variable {X : Cx} {e : Expr} {de : TDE} {pos : Pos}
theorem de_extL (i : Nat) {x : Str} {p apos : Pos} (hN : X.N[i]? = some x) (he : DE X e de) (hv : Vis X.env.scope x := by first | exact Or.inl rfl | exact Or.inr (Or.inl rfl) | exact Or.inr (Or.inr rfl)) (hd : (x == ("__debug__" : Str)) = false := by decide)
  (hcd : (x == ("__classdict__" : Str)) = false := by decide) (hs : starEach [e] X.env = [(false, eval e X.env)] := by rfl)
  (hbase : attributeBase (.Name x p) "extend" X.env (eval (.Name x p) X.env) = eval (.Name x p) X.env := by rfl)
  (hfew : ((backTo pos (starEach [e] X.env)).all (fun x => !x.1) && (backToKw pos (keywordEach [] X.env)).all (fun x => x.1.isSome)
   && decide (([e] : List Expr).length + ([] : List Keyword).length + (if ([] : List Keyword).isEmpty then 0 else 1) < 30)) = true := by rfl)
  (hline : (apos.endLine == pos.line) = true := by rfl) : DE X (.Call (.Attribute (.Name x p) "extend" apos) [e] [] pos) (dExtL i de) := by
 obtain ⟨te, pe, ae⟩ := he
 exact ⟨_, pe_bm PySem.F.plainAttrs_list PySem.F.slot_list_extend PySem.F.type_list_extend mt_extL (qb1k hN hv hd hcd) (qa2g pe qa5k hs) hbase hfew hline hs rfl, ad_extL ae⟩
theorem qe0f {i : Nat} {ρ : Rho} {Q : DV -> Rho -> Prop} {d1 : TDE} : dExtL i d1 ρ Q = need (qa8a (ρ[i]?.join)) fun _ => d1 ρ fun x ρ1 => need (qa1a ρ1 x) fun dx => ∃ ys, dx = .list ys /\ need (qa8a (ρ1[i]?.join)) fun o => o.2.length + ys.length <= 1000000 /\ Q (.d .none) (ρ1.set i (some (okL o.1 (o.2 ++ ys)))) := rfl
end
end L2
end
section
namespace L2
open PySem PySem.Spec PyProof.Rows
noncomputable def rInP (K : PySem.W.Frag) : R2 := fun x y H Q => ∃ S S' d p, ∃ (ds : List PyData) (xs : List V), AtD K H S d x /\ y = .ref p /\ SqL K H p xs /\ qa0e K H S' ds xs /\ SeqAt.shaped d = true /\ (∀ e ∈ ds, SeqAt.shaped e = true) /\ Q (.bl (ds.any fun e => PyData.eqv e d)) H
section
variable {X : Cx}
open Classical in
theorem op_inP (hu : X.A.units + 65 < cLine) : OpR X (compareOp .In) (rInP X.K) := by
 intro pins s σ H x y v u Q I rx ry h
 obtain ⟨S, S', d, p, ds, xs, hd, rfl, hq, ht, sd, sds, q⟩ := h
 cases ry
 obtain ⟨bs, rb⟩ := AtD.reads I d x v hd rx
 obtain ⟨its, r, pl, hz⟩ := I.list hq
 have hl1 : its.length = ds.length := by rw [← r.length, ht.length]
 have at_ : ∀ i (hi : i < its.length) (hi2 : i < ds.length), ∃ as, Reads s.heap its[i] ds[i] as := fun i hi hi2 => by
  obtain ⟨xv, e1, hdi⟩ := ht.get (i := i) (d := ds[i]) (List.getElem?_eq_getElem hi2)
  obtain ⟨uv, e2, rv⟩ := r.get e1
  rw [List.getElem?_eq_getElem hi] at e2
  cases e2
  exact AtD.reads I _ _ _ hdi rv
 let f : Value -> Bool := fun w => decide (∃ e as, Reads s.heap w e as /\ e ∈ ds /\ PyData.eqv e d = true)
 have fv : ∀ i (hi : i < its.length) (hi2 : i < ds.length), f its[i] = PyData.eqv ds[i] d := fun i hi hi2 => by
  obtain ⟨as, ra⟩ := at_ i hi hi2
  cases hq : PyData.eqv ds[i] d with
  | true => exact decide_eq_true ⟨_, as, ra, List.getElem_mem hi2, hq⟩
  | false =>
   refine decide_eq_false ?_
   rintro ⟨e, as', ra', hm, he⟩
   have e1 := SeqAt.Reads.unique ds[i] _ _ _ _ (SeqAt.canLay_of_shaped (sds _ (List.getElem_mem hi2))) ra ra'
   rw [← e1, hq] at he
   cases he
 refine SeqAt.in_listAt f pl.isList (fun w hw => ?_) ⟨.bl _, H, I, rfl, ?_⟩
 ·obtain ⟨i, hi, rfl⟩ := List.getElem_of_mem (show w ∈ its by simpa using hw)
  obtain ⟨as, ra⟩ := at_ i hi (by omega)
  have s1 := sds _ (List.getElem_mem (show i < ds.length by omega))
  rw [fv i hi (by omega)]
  exact SeqAt.eqAt_reads _ d X.A.in1 s _ v as bs ra rb (SeqAt.canLay_of_shaped s1) (SeqAt.canLay_of_shaped sd) (SeqAt.room_of_shaped s1 (by show X.A.units + 1 + 64 < cLine; omega))
 ·have e : its.toArray.any f = ds.any fun e => PyData.eqv e d := by
   rw [List.any_toArray, Bool.eq_iff_iff, List.any_eq_true, List.any_eq_true]
   constructor
   ·rintro ⟨w, hw, hf⟩
    obtain ⟨i, hi, rfl⟩ := List.getElem_of_mem hw
    rw [fv i hi (by omega)] at hf
    exact ⟨_, List.getElem_mem (by omega), hf⟩
   ·rintro ⟨w, hw, hf⟩
    obtain ⟨i, hi, rfl⟩ := List.getElem_of_mem hw
    rw [← fv i (by omega) hi] at hf
    exact ⟨_, List.getElem_mem (by omega), hf⟩
  rw [e]
  exact q
end
noncomputable def fInP : F2 := fun x y => match y with
 | .list ds => if (SeqAt.shaped x && ds.all SeqAt.shaped) = true then some (.bool (ds.any fun e => PyData.eqv e x)) else none
 | _ => none
theorem fInP_of {x : PyData} {ds : List PyData} (h1 : SeqAt.shaped x = true) (h2 : ∀ e ∈ ds, SeqAt.shaped e = true) : fInP x (.list ds) = some (.bool (ds.any fun e => PyData.eqv e x)) := if_pos (by rw [h1, Bool.true_and]; exact List.all_eq_true.mpr h2)
theorem ad_inP {K : PySem.W.Frag} : AdR K (rInP K) fInP := by
 intro S H x y dx dy z Q f hx hy e k
 unfold fInP at e
 split at e
 ·rename_i ds
  split at e
  ·rename_i hc
   cases e
   obtain ⟨h1, h2⟩ := Bool.and_eq_true_iff.mp hc
   obtain ⟨a, vs, rfl, h3, h4⟩ := hy.list
   exact ⟨Any, S, dx, a, ds, vs, hx.any, rfl, SqL.of h3, h4, h1, List.all_eq_true.mp h2, k _ _ (Same.refl _) (qa2n _)⟩
  ·cases e
 ·cases e
end L2
end
section
namespace L2
open PySem PySem.Spec PyProof.Rows
noncomputable abbrev TDB := Rho -> (List DV -> List PyData -> Rho -> Prop) -> Prop
noncomputable def AdB (K : PySem.W.Frag) (t : TA) (dt : TDB) : Prop := ∀ (c : Rc) (O : Own) (ρ : Rho) (σ : St) (H : Hp) (Qd : List DV -> List PyData -> Rho -> Prop) (Q : List V -> Hp -> Prop), Rel K c O ρ σ H -> dt ρ Qd ->
 (∀ xs ys ρ' O' vs p ws H', Qd xs ys ρ' -> Rel K (c.add p) O' ρ' σ H' -> Pers K (live c O) H (live (c.add p) O') H' -> AtVs K (live (c.add p) O') σ H' xs vs -> qb4l c O' p -> H' p = some (.lst ws) -> qa0e K H' (live (c.add p) O') ys ws -> Q (vs ++ [.ref p]) H') -> t σ H Q
noncomputable def DB (X : Cx) (es : List Expr) (dt : TDB) : Prop := ∃ t, PA X es t /\ AdB X.K t dt
noncomputable def dLast (df : TDF) : TDB := fun ρ Q => df ρ fun ys ρ1 => Q [] ys ρ1
noncomputable def qd0w (de : TDE) (dr : TDB) : TDB := fun ρ Q => de ρ fun x ρ1 => dr ρ1 fun xs ys ρ2 => Q (x :: xs) ys ρ2
section
variable {K : PySem.W.Frag}
theorem ad_last {t : TE} {df : TDF} (h : AdF K t df) : AdB K (qa7s t tNil) (dLast df) := fun c O ρ σ H Qd Q R q k =>
 h c O ρ σ H _ _ R q fun ys ρ1 O1 p ws H1 q1 R1 P1 f1 hp a1 => k _ _ _ _ _ _ _ _ q1 R1 P1 .nil f1 hp a1
theorem qe6o {t : TE} {ts : TA} {de : TDE} {dr : TDB} (he : AdE K t de) (ha : AdB K ts dr) : AdB K (qa7s t ts) (qd0w de dr) := by
 intro c O ρ σ H Qd Q R h k
 refine he c O ρ σ H _ _ R h fun x ρ1 O1 v H1 h1 R1 P1 a1 => ?_
 refine ha c O1 ρ1 σ H1 _ _ R1 h1 fun xs ys ρ2 O2 vs p ws H2 h2 R2 P2 a2 f2 hp ax => ?_
 exact k _ _ _ _ _ _ _ _ h2 R2 (P1.trans P2) (.cons (a1.pers P2) a2) f2 hp ax
theorem AtVs.snocSl {S S' : Addr -> Prop} {σ σ' : St} {H : Hp} {i : Nat} {v : V} (hP : Pers K S H S' H) (hσ : ∀ (j : Nat) (u : V), σ[j]? = some (some u) -> σ'[j]? = some (some u)) (hi : σ'[i]? = some (some v)) : ∀ {xs : List DV} {vs : List V}, AtVs K S σ H xs vs -> AtVs K S' σ' H (xs ++ [.sl i]) (vs ++ [v])
 | _, _, .nil => .cons hi .nil
 | _, _, .cons (a := x) h t => .cons (by
   cases x with
   | d y => exact hP _ _ h
   | sl j => exact hσ _ _ h) (AtVs.snocSl hP hσ hi t)
noncomputable def qc4m (fs : List Bool) (sp : DSp) (db : TDB) : TDS := fun D ρ => db ρ fun xs ys ρ1 => dCall fs sp (fun ρ Q => Q (xs ++ [.sl ρ1.length]) ρ) (ρ1 ++ [some (.own ys)]) fun r ρ2 => D.rt r ρ2
theorem qe4l {fs : List Bool} {sp : DSp} {ta : TA} {db : TDB} (h : AdB K ta db) : AdS K (tRet (tCall (spD K sp) [] E0 ta)) (qc4m fs sp db) := by
 intro c O ρ σ H D Dd R E q
 refine h c O ρ σ H _ _ R q fun xs ys ρ1 O1 vs p ws H1 q1 R1 P1 a1 f1 hp ax => ?_
 have Rm := R1.more (n := 1)
 have hl : ρ1.length < (ρ1 ++ List.replicate 1 (none : Option L)).length := by simp
 obtain ⟨R2, P2⟩ := Rm.setOwn hl f1.1 f1.2.1 f1.2.2.1 f1.2.2.2 (E.oa p f1.1) hp ax
 have e1 : (ρ1 ++ List.replicate 1 (none : Option L)).set ρ1.length (some (.own ys)) = ρ1 ++ [some (.own ys)] := by
  rw [List.set_append_right _ _ (Nat.le_refl _), Nat.sub_self]; rfl
 have e2 : (σ ++ List.replicate 1 (none : Option V)).set ρ1.length (some (.ref p)) = σ ++ [some (.ref p)] := by
  rw [← R1.len, List.set_append_right _ _ (Nat.le_refl _), Nat.sub_self]; rfl
 rw [e1, e2] at R2
 have hi : (σ ++ [some (.ref p)])[ρ1.length]? = some (some (.ref p)) := by rw [← R1.len]; simp
 have av := AtVs.snocSl (i := ρ1.length) (v := .ref p) P2 (fun j u e => by rw [List.getElem?_append_left (List.getElem?_eq_some_iff.mp e).1]; exact e) hi a1
 have key := qc2z (K := K) (c := c) (O := owned O1 ρ1.length p) (ρ := ρ1 ++ [some (.own ys)]) (σ := σ ++ [some (.ref p)]) (H := H1) (fs := fs) (sp := sp) (ta := fun _ H Q => Q (vs ++ [.ref p]) H) (da := fun ρ Q => Q (xs ++ [.sl ρ1.length]) ρ)
  (fun Qa Qv qa k => k _ _ _ _ _ qa R2 .refl av) (Q := D.rt) q1 (fun r ρ' O' v H' q' ok _ => E.rt r O' ρ' _ H' v ok q')
 exact key
end
section
variable {X : Cx} {k : Nat} {f : Addr} {fd : FuncData} {ps : List Str} {sp : DSp} {x : Str} {st : Stmt} {p pos pos2 : Pos} {e : Expr} {es : List Expr} {db : TDB} {df : TDF} {de : TDE}
theorem db_last (h : DF X e df) (hs : starEach [e] X.env = (false, eval e X.env) :: starEach [] X.env := by rfl) : DB X [e] (dLast df) := let ⟨_, p, a⟩ := h; ⟨_, qa2g p qa5k hs, ad_last a⟩
theorem qc0f (h : DE X e de) (h' : DB X es db) (hs : starEach (e :: es) X.env = (false, eval e X.env) :: starEach es X.env := by rfl) : DB X (e :: es) (qd0w de db) := let ⟨_, p, a⟩ := h; let ⟨_, p', a'⟩ := h'; ⟨_, qa2g p p' hs, qe6o a a'⟩
theorem qe4m (fs : List Bool) (d : Def X.K X.mg x st ps f fd) (g : FnOk X.prog X.w X.K X.mg X.base CX0 k f fd ps (spD X.K sp)) (hr : Room k X.A) (hg : Gl X x) (ha : DB X (e :: es) db) (hdb : (x == ("__debug__" : Str)) = false := by decide)
  (he : starEach (e :: es) X.env = (false, eval e X.env) :: starEach es X.env := by rfl) (hpl : (backTo pos (starEach es X.env)).any (·.1) = false := by rfl) : DS X (.Return (some (.Call (.Name x p) (e :: es) [] pos)) pos2) (qc4m fs sp db) := by
 obtain ⟨t, pt, at_⟩ := ha
 exact ⟨_, qa9w (qb5b d g hr hg pt hdb he hpl), qe4l at_⟩
end
section
variable {ρ : Rho} {D : DEnds} {fs : List Bool} {sp : DSp} {db : TDB} {df : TDF} {de : TDE} {Q : List DV -> List PyData -> Rho -> Prop}
theorem qe0g : dLast df ρ Q = df ρ fun ys ρ1 => Q [] ys ρ1 := rfl
theorem qd0x : qd0w de db ρ Q = de ρ fun x ρ1 => db ρ1 fun xs ys ρ2 => Q (x :: xs) ys ρ2 := rfl
theorem qc6z : qc4m fs sp db D ρ = db ρ fun xs ys ρ1 => pass fs (xs ++ [.sl ρ1.length]) (ρ1 ++ [some (.own ys)]) fun ls ρ2 => ((flOf 0 fs (xs ++ [.sl ρ1.length])).map (·.2)).Nodup /\ sp ls fun r outs => D.rt r (fills outs (flOf 0 fs (xs ++ [.sl ρ1.length])) ρ2) := rfl
end
end L2
end
section
namespace L2
open PySem PySem.Spec PyProof.Rows
noncomputable def qd0y (k v : Str) : TDE := fun ρ Q => Q (.d (.dict [(.str k, .str v)])) ρ
theorem qe6p {K : PySem.W.Frag} (k v : Str) : AdE K (tDisp [(tC (.str k), tC (.str v))]) (qd0y k v) := by
 intro c O ρ σ H Qd Q R h kk p hp
 have key : qc3e [(tC (.str k), tC (.str v))] σ (upd H p (.dK [])) (fun ps H' => ps = [(V.str k, V.str v)] /\ H' = upd H p (.dK [])) := ⟨rfl, rfl⟩
 refine ⟨qa0z, [(Sum.inr k, V.str v)], rfl, (by show 1 <= 15; decide), ?_⟩
 have sm := qa2y (H := H) hp (.dK [(Sum.inr k, V.str v)])
 have e : upd (upd H p (.dK [])) p (.dK (qb4p [] [(Sum.inr k, V.str v)])) = upd H p (.dK [(Sum.inr k, V.str v)]) := by
  funext b
  by_cases hb : b = p
  ·subst hb; rw [qa0z, qa0z]; rfl
  ·rw [qa1j hb, qa1j hb, qa1j hb]
 rw [e]
 exact kk _ _ _ _ _ h (R.grow sm) (.same sm) (show AtD K _ (live c O) (.dict _) (.ref p) from qa9x (κ := [(Sum.inr k, FD.str v)]) (R.frsLive p hp) qa0z)
theorem qe6q {X : Cx} {pos : Pos} {keys : List (Option Expr)} {values : List Expr} (k v : Str) (h : PPs X pos keys values [(tC (.str k), tC (.str v))]) (hall : keys.all (·.isSome) = true := by rfl) (hl : keys.length = values.length := by rfl) (h0 : keys ≠ [] := by nofun)
  (h15 : keys.length <= 15 := by decide) : DE X (.Dict keys values pos) (qd0y k v) := ⟨_, pe_disp h hall hl h0 h15, qe6p k v⟩
theorem qd0z {k v : Str} {ρ : Rho} {Q : DV -> Rho -> Prop} : qd0y k v ρ Q = Q (.d (.dict [(.str k, .str v)])) ρ := rfl
end L2
end

section
namespace K06
open PySem L2 Sn
theorem us0 {α : Type} {Q : List α -> Prop} (h : Q []) (us : List α) (e : us.length = 0) : Q us := by
 cases us with
 | nil => exact h
 | cons => exact absurd e (Nat.succ_ne_zero _)
theorem usS {α : Type} {Q : List α -> Prop} {n : Nat} (h : ∀ a us, us.length = n -> Q (a :: us)) (us : List α) (e : us.length = n + 1) : Q us := by
 cases us with
 | nil => exact absurd e.symm (Nat.succ_ne_zero _)
 | cons a us => exact h a us (Nat.succ.inj e)
theorem us1 {α : Type} {Q : List α -> Prop} (h : ∀ a, Q [a]) : ∀ us : List α, us.length = 1 -> Q us := usS fun a => us0 (h a)
theorem us2 {α : Type} {Q : List α -> Prop} (h : ∀ a b, Q [a, b]) : ∀ us : List α, us.length = 2 -> Q us := usS fun a => us1 (h a)
theorem us3 {α : Type} {Q : List α -> Prop} (h : ∀ a b c, Q [a, b, c]) : ∀ us : List α, us.length = 3 -> Q us := usS fun a => us2 (h a)
theorem us4 {α : Type} {Q : List α -> Prop} (h : ∀ a b c d, Q [a, b, c, d]) : ∀ us : List α, us.length = 4 -> Q us := usS fun a => us3 (h a)
theorem us5 {α : Type} {Q : List α -> Prop} (h : ∀ a b c d e, Q [a, b, c, d, e]) : ∀ us : List α, us.length = 5 -> Q us := usS fun a => us4 (h a)
theorem l1 {α : Type} {r : List α} (h : r.length = 1) : ∃ x, r = [x] := us1 (Q := fun r => ∃ x, r = [x]) (fun x => ⟨x, rfl⟩) r h
theorem l2 {α : Type} {r : List α} (h : r.length = 2) : ∃ x y, r = [x, y] := us2 (Q := fun r => ∃ x y, r = [x, y]) (fun x y => ⟨x, y, rfl⟩) r h
theorem l3 {α : Type} {r : List α} (h : r.length = 3) : ∃ x y z, r = [x, y, z] := us3 (Q := fun r => ∃ x y z, r = [x, y, z]) (fun x y z => ⟨x, y, z, rfl⟩) r h
open Lean in
def dl (p : Bool) : MacroM (TSyntaxArray `Lean.Parser.Tactic.simpLemma) :=
 ("↓itT ↓itF ↓dSeq_a ↓qe0e asSt_s fLeS_s ↓qd9x ↓qc3g ↓qe0f ↓qd0z ↓qe0g ↓qd0x ↓qc6z ↓dInK_a fSlA_t ↓qd8w ↓qc9n ↓qd8x ↓dIf_a ↓qd8y ↓dRet_a ↓qd8z ↓qd9a ↓qc6q ↓dSet_a ↓qd9b ↓dAsg_a ↓dFor_a ↓dVar_a ↓dC_a ↓dOp_a ↓dOpF_a ↓dCB_a ↓dCBF_a ↓dTup_a ↓dLst_a ↓dFz_a ↓dNil_a ↓qd9c ↓dB_a ↓dTru_a ↓dAnd_a ↓dOr_a ↓dNot_a ↓dIfE_a ↓qd9d ↓dOrV_a ↓qd9e ↓qc9p ↓dIs_a ↓qc6r ↓dPop_a ↓qc9q ↓qc9r ↓qd9h ↓qc9s ↓qd9j ↓qc9t ↓qc9u ↓qc9v ↓pass_n ↓pass_d ↓pass_s ↓pass_t ↓fz_d ↓fz_sl ↓fzL_d ↓fzL_sl ↓fzs_n ↓fzs_c ↓qd9p ↓dSl_a ↓qd0k ↓qd0l ↓dTab_a ↓qd9s ↓dNeg_a fTab_s asT_t qd9t qd9u qd9v qc9o ownB_j qd9f qd9g okL_o okL_b asI2_i asI_i ioJ_o ioJ_b ioJ_t fzJ_d fzJ_o fzLJ_d fzLJ_o fzLJ_s flOf_0 flOf_d flOf_s flOf_t qd9k qd9l qc9w qc9x qc9y qc9z qd0a qd0b qd9m qd9n qd9o lend_o lend_b lend_t lend_d lend_s flC_n flC_c capR_a qd9q qd0c qd0d qd0e qd0f qd0g qd0h asB_b tru_b tru_n tru_i tru_l tru_t seqD_l seqD_t mask_n mask_d mask_s mask_t mask_b qa1c qc6l fAdd_i fSub_i fCmp_i fLen_l fLen_t qc9k qc9l qd8t qd8u fIx_l fIx_t List.getElem?_cons_zero List.getElem?_cons_succ List.getElem?_nil List.set_cons_zero List.set_cons_succ Option.join_some Option.join_none Option.bind_some Option.bind_none Option.map_some Option.map_none Option.isSome_some List.map_cons List.map_nil List.length_cons List.length_nil List.cons_append List.nil_append Nat.reduceAdd Nat.reduceSub Bool.not_true Bool.not_false"++if p then " ↓qd9i atI_0 atI_1 fIn_f qc3c inF_s List.all_cons List.all_nil Bool.and_self Bool.and_true Bool.or_false Bool.or_true Bool.true_or Bool.false_or qc9h qc9i qc6o qb8k List.replicate if_true if_false Bool.false_eq_true true_and and_true List.nodup_cons List.nodup_nil List.not_mem_nil not_false_eq_true List.mem_cons Nat.reduceLeDiff Nat.reduceLT reduceCtorEq Nat.zero_add Nat.reduceEqDiff false_or or_false" else "").splitOn " " |>.toArray.mapM fun s => if s.startsWith "↓" then `(Parser.Tactic.simpLemma| ↓$(mkIdent (s.drop 1).toName):ident) else `(Parser.Tactic.simpLemma| $(mkIdent s.toName):ident)
local macro_rules | `(tactic| walk_at "p1") => do let a ← dl true; `(tactic| simp only [$[$a:simpLemma],*])
local macro_rules | `(tactic| walk_at "d1") => do let a ← dl false; `(tactic| first | dsimp only [$[$a:simpLemma],*] | walk_at "p1")
local macro_rules | `(tactic| walk_at "pd") => `(tactic| (repeat first | (with_reducible refine qd8v ?_) | walk_at "p1"))
local macro_rules | `(tactic| walk_at "dd") => `(tactic| (repeat first | (with_reducible refine qd8v ?_) | walk_at "d1"))
local macro_rules | `(tactic| walk_at "k1") => do let a ← dl true; `(tactic| simp +decide only [$[$a:simpLemma],*])
local macro_rules | `(tactic| walk_at "dk") => `(tactic| (repeat first | (with_reducible refine qd8v ?_) | walk_at "k1"))
noncomputable def top (i : Nat) : Stmt := PySem.Challenge.pw_worldsay_k06_what_is_a_sentence.main.body.getD i (.Pass ⟨0, 0, 0, 0⟩)
--TOP
structure Bl (mg : Str -> Option Value) : Prop where
 len_ : mg "len" = none
 range_ : mg "range" = none
 tuple_ : mg "tuple" = none
 bool_ : mg "bool" = none
 isinstance_ : mg "isinstance" = none
 reversed_ : mg "reversed" = none
 max_ : mg "max" = none
 zip_ : mg "zip" = none
 list_ : mg "list" = none
 str_ : mg "str" = none
 enumerate_ : mg "enumerate" = none
 dict_ : mg "dict" = none
 sum_ : mg "sum" = none
 int_ : mg "int" = none
 min_ : mg "min" = none
 sorted_ : mg "sorted" = none
 all_ : mg "all" = none
 set_ : mg "set" = none
 repr_ : mg "repr" = none
noncomputable def spCell (K : W.Frag) : Sp := fun vs H Q _ => ∃ (v : Addr) (ns : List Int) (k : Int), vs = [.ref v, .int k] /\ SqL K H v (ns.map V.int) /\ 0 <= k /\ ∀ c : Int, (ns = [] -> c = 0) -> Q (.int c) H
noncomputable def spBy (K : W.Frag) : Sp := fun vs H Q _ => ∃ (v : Addr) (ns : List Int) (k many : Int), vs = [.ref v, .int k, .int many] /\ SqL K H v (ns.map V.int) /\ ns.length <= 63 /\ 0 <= k /\ k <= 1000000 /\ 0 < many /\ ∀ r : Int, 0 <= r -> r < many -> Q (.int r) H
noncomputable def qd1a : DSp := fun ls Q => ∃ (k : Nat) (many : Int), ls = [.tape k, .d (.int many)] /\ 0 < many /\ k < 1000000 /\ ∀ r : Int, 0 <= r -> r < many -> Q (.d (.int r)) [some (.tape (k + 1)), none]
section
variable {P : Program} {w : World} {K : W.Frag} {mg : Str -> Option Value} {base : Heap}
noncomputable abbrev qa2w : Stmt := top 25
theorem qc4n : FnScope ["_law_script", "_law_k"] ["_law_script", "_law_k"] (qa0h qa2w) := ⟨rfl, rfl, rfl, by decide +kernel, rfl, by decide +kernel, by decide +kernel⟩
theorem qe1w {f : Addr} {fd : FuncData} (F : Fun K "_law_cell_at" "_law_cell_at" qa2w f fd) (B : Bl mg) : FnOk P w K mg base CX0 1 f fd ["_law_script", "_law_k"] (spCell K) := by
 refine F.ok qc4n (fun vs H Q E h => ?_) (fun cdv A outer s H vs Q E hr h => ?_)
 ·obtain ⟨v, ns, k, rfl, _⟩ := h
  rfl
 obtain ⟨v, ns, k, rfl, hv, hk, q⟩ := h
 refine ⟨_, (qa5t (ps_if (qb9z op_gt (qb1o qa7t rfl B.len_ qa1s (qa2g (pv 0) qa5k)) qa2q (qa0m _))
  (qa8w (qa9w (pe_ix qb4h (pv 0) (qa4a qb1n (pv 1) (qb1o qa7t rfl B.len_ qa1s (qa2g (pv 0) qa5k))) (fun _ _ => rfl))))
  qb9y)
  (qa8w (qa9w qa2q))), ?_⟩
 have hl : (ns.map V.int).length = ns.length := List.length_map _
 refine ⟨_, rfl, v, _, rfl, .inl hv, _, _, rfl, rfl, _, rfl, ?_⟩
 rw [hl]
 refine ite2 (fun c => ?_) (fun c => ?_)
 ·have c' : (0 : Int) < (ns.length : Int) := of_decide_eq_true c
  refine ⟨_, rfl, _, rfl, _, rfl, v, _, rfl, .inl hv, _, _, rfl, rfl, ?_, ?_⟩
  ·rw [hl]; exact c'
  ·rw [hl]
   have m0 : 0 <= k % (ns.length : Int) := Int.emod_nonneg _ (by omega)
   have m1 : k % (ns.length : Int) < (ns.length : Int) := Int.emod_lt_of_pos _ c'
   obtain ⟨d, e1, e2, _⟩ := atI_in (xs := ns.map V.int) m0 (by rw [hl]; exact m1)
   obtain ⟨n, _, rfl⟩ := List.mem_map.mp e2
   exact ⟨v, _, _, _, rfl, rfl, hv, e1, q n fun e => by rw [e] at c'; exact absurd c' (by decide)⟩
 ·exact q 0 fun _ => rfl
noncomputable abbrev qa6m : Stmt := top 26
theorem qb0a : FnScope ["_law_script", "_law_k", "_law_many", "_law_cell", "_law_part", "_law_seed"] ["_law_script", "_law_k", "_law_many"] (qa0h qa6m) := ⟨rfl, rfl, rfl, by decide +kernel, rfl, by decide +kernel, by decide +kernel⟩
theorem ok_by {f f1 : Addr} {fd fd1 : FuncData} (F : Fun K "_law_by" "_law_by" qa6m f fd) (B : Bl mg) (qa4p : Def K mg "_law_cell_at" qa2w ["_law_script", "_law_k"] f1 fd1) : FnOk P w K mg base CX0 2 f fd ["_law_script", "_law_k", "_law_many"] (spBy K) := by
 have qc7k : FnOk P w K mg base CX0 1 f1 fd1 ["_law_script", "_law_k"] (spCell K) := qe1w qa4p.fn B
 refine F.ok qb0a (fun vs H Q E h => ?_) (fun cdv A outer s H vs Q E hr h => ?_)
 ·obtain ⟨v, ns, k, many, rfl, _⟩ := h
  rfl
 obtain ⟨v, ns, k, many, rfl, hv, hl, hk, hk2, hm, q⟩ := h
 refine ⟨_, (qa5t (qb1m (i := 3) qb0a.nd rfl (Or.inl rfl) (qb5b qa4p qc7k hr rfl (qa2g (pv 0) (qa2g (pv 1) qa5k))))
  (qa5t (qb1m (i := 4) qb0a.nd rfl (Or.inl rfl) qa2q)
  (qa5t (ps_if (qb9z op_ge (pv 3) (qa4a op_pow qa2q qa2q) (qa0m _))
  (qa8w (qb1m (i := 4) qb0a.nd rfl (Or.inl rfl) (qa4a op_shr (pv 3) (qa4a qb4f qa2q (qa4a qb4g (pv 1) (qb1o qa7t rfl B.len_ qa1s (qa2g (pv 0) qa5k)))))))
  qb9y)
  (qa5t (ps_if (qb9z op_gt (pv 4) qa2q (qa0m _))
  (qa8w (qa9w (qa4a qb1n (pv 4) (pv 2))))
  qb9y)
  (qa5t (qb1m (i := 5) qb0a.nd rfl (Or.inl rfl) (qa4a qc2n (qa4a qc2n (qa4a qb1n (pv 3) qa2q) (qa4a qb4f (qa4a qb4f qa2q (pv 1)) (pv 1))) qa2q))
  (qa8w (qa9w (qa4a qb1n (qa4a qb1n (qa4a qb4f (qa4a qb1n (qa4a qb4f (pv 5) qa2q) qa2q) qa2q) qa2q) (pv 2))))))))), ?_⟩
 have hln : (ns.map V.int).length = ns.length := List.length_map _
 refine ⟨_, rfl, _, rfl, v, ns, k, rfl, hv, hk, fun c hc => ?_⟩
 have e64 : (2 : Int) ^ 64 = 18446744073709551616 := by decide
 refine ⟨_, rfl, _, _, rfl, rfl, ⟨by decide, by decide, by decide⟩, _, _, rfl, rfl, _, rfl, ?_⟩
 refine ite2 (fun c1 => ?_) (fun c1 => ?_)
 ·have c1' : (10 : Int) ^ (18 : Int).toNat <= c := of_decide_eq_true c1
  have hne : 0 < ns.length := by
   cases ns with
   | nil => rw [hc rfl] at c1'; exact absurd c1' (by decide)
   | cons _ _ => exact Nat.succ_pos _
  have hd0 : 0 <= k / (ns.length : Int) := Int.ediv_nonneg hk (by omega)
  refine ⟨_, rfl, _, rfl, _, rfl, v, _, rfl, .inl hv, _, _, rfl, rfl, ?_, _, _, rfl, rfl, .inl ⟨by decide, by decide⟩, _, _, rfl, rfl, ?_, ?_⟩
  ·rw [hln]; exact ⟨by omega, by omega⟩
  ·rw [hln]; show (0 : Int) <= 20 * (k / (ns.length : Int)); omega
  refine ⟨_, rfl, _, _, rfl, rfl, _, rfl, ?_⟩
  refine ite2 (fun c2 => ?_) (fun c2 => ?_)
  ·exact ⟨_, rfl, _, rfl, _, _, rfl, rfl, hm, q _ (Int.emod_nonneg _ (by omega)) (Int.emod_lt_of_pos _ hm)⟩
  ·refine ⟨_, rfl, _, _, rfl, rfl, (by show (0 : Int) < 1000003; decide), _, rfl, _, _, rfl, rfl, .inl ⟨by decide, by decide⟩, _, rfl, _, _, rfl, rfl, .inr ⟨by omega, by omega⟩, _, _, rfl, rfl, _, _, rfl, rfl, ?_⟩
   refine ⟨_, rfl, _, _, rfl, rfl, .inr ⟨by decide, by decide⟩, _, _, rfl, rfl, (by show (0 : Int) < 999983; decide), _, _, rfl, rfl, .inr ⟨by decide, by decide⟩, _, _, rfl, rfl, (by show (0 : Int) < 524287; decide), _, rfl, _, _, rfl, rfl, hm, ?_⟩
   exact q _ (Int.emod_nonneg _ (by omega)) (Int.emod_lt_of_pos _ hm)
 ·refine ⟨_, rfl, _, _, rfl, rfl, _, rfl, ?_⟩
  refine ite2 (fun c2 => ?_) (fun c2 => ?_)
  ·exact ⟨_, rfl, _, rfl, _, _, rfl, rfl, hm, q _ (Int.emod_nonneg _ (by omega)) (Int.emod_lt_of_pos _ hm)⟩
  ·refine ⟨_, rfl, _, _, rfl, rfl, (by show (0 : Int) < 1000003; decide), _, rfl, _, _, rfl, rfl, .inl ⟨by decide, by decide⟩, _, rfl, _, _, rfl, rfl, .inr ⟨by omega, by omega⟩, _, _, rfl, rfl, _, _, rfl, rfl, ?_⟩
   refine ⟨_, rfl, _, _, rfl, rfl, .inr ⟨by decide, by decide⟩, _, _, rfl, rfl, (by show (0 : Int) < 999983; decide), _, _, rfl, rfl, .inr ⟨by decide, by decide⟩, _, _, rfl, rfl, (by show (0 : Int) < 524287; decide), _, rfl, _, _, rfl, rfl, hm, ?_⟩
   exact q _ (Int.emod_nonneg _ (by omega)) (Int.emod_lt_of_pos _ hm)
noncomputable abbrev qa4s : Stmt := top 27
theorem qd4o : FnScope ["_law_tape", "_law_many"] ["_law_tape", "_law_many"] (qa0h qa4s) := ⟨rfl, rfl, rfl, by decide +kernel, rfl, by decide +kernel, by decide +kernel⟩
theorem ok_next {f f1 f2 : Addr} {fd fd1 fd2 : FuncData} (F : Fun K "_law_next" "_law_next" qa4s f fd) (B : Bl mg) (qa4p : Def K mg "_law_cell_at" qa2w ["_law_script", "_law_k"] f1 fd1)
  (qb5i : Def K mg "_law_by" qa6m ["_law_script", "_law_k", "_law_many"] f2 fd2) : FnOk P w K mg base CX0 3 f fd ["_law_tape", "_law_many"] (spD K qd1a) := by
 have qe6r : FnOk P w K mg base CX0 2 f2 fd2 ["_law_script", "_law_k", "_law_many"] (spBy K) := ok_by qb5i.fn B qa4p
 refine F.ok qd4o (fun vs H Q E h => ?_) (fun cdv A outer s H vs Q E hr h => ?_)
 ·obtain ⟨c, O, ls, Qd, _, _, _, _, _, R, ⟨k, many, rfl, _⟩, _⟩ := h
  have := R.len
  rw [List.length_map] at this
  exact this
 obtain ⟨c, O, ls, Qd, _, _, _, _, _, R, ⟨k, many, rfl, hm, hk2, q⟩, fin⟩ := h
 obtain ⟨t, hO, hσ0, ht⟩ := R.tap 0 k rfl
 obtain ⟨v1, hσ1, a1⟩ := R.dat 1 _ rfl
 have e1 := qb8d a1
 subst e1
 have hvs : vs = [.ref t, .int many] := by
  have hl := R.len
  rw [List.length_map] at hl
  obtain ⟨x, y, rfl⟩ := l2 (r := vs) hl
  have e0 : x = .ref t := by simpa using hσ0
  have e1 : y = .int many := by simpa using hσ1
  rw [e0, e1]
 subst hvs
 have hs := R.sc
 have hl : c.ns.length <= 63 := by simpa using hs.1
 refine ⟨_, (qa5t (ps_asg (qa4a qc2n (pe_ix qb4h (pv 0) qa2q (fun _ _ => rfl)) qa2q) (pg_sub (pv 0) qa2q set_list))
  (qa8w (qa9w (qb5b qb5i qe6r hr rfl (qa2g (pe_ix qb4h (pv 0) qa2q (fun _ _ => rfl)) (qa2g (pe_ix qb4h (pv 0) qa2q (fun _ _ => rfl)) (qa2g (pv 1) qa5k))))))), ?_⟩
 have ht' : (upd H t (.lst ([V.ref c.sa, V.int k].set 1 (.int ((k : Int) + 1))))) t = some (.lst [.ref c.sa, .int ((k : Int) + 1)]) := qa0z
 obtain ⟨R2, P2⟩ := R.write (l := .tape (k + 1)) (xs := []) (vs' := [.ref c.sa, .int ((k + 1 : Nat) : Int)]) hO ht (.inr (.inr ⟨k, rfl⟩)) (.inr (.inr ⟨k, k + 1, rfl, rfl, rfl⟩))
 have ek : ((k + 1 : Nat) : Int) = (k : Int) + 1 := by omega
 rw [ek] at R2
 refine ⟨_, rfl, t, _, 1, _, rfl, rfl, SqL.of ht, rfl, _, _, rfl, rfl, _, rfl, t, _, 1, 1, rfl, rfl, ht, rfl, ?_⟩
 refine ⟨_, rfl, t, _, 0, _, rfl, rfl, SqL.of ht', rfl, _, rfl, t, _, 1, _, rfl, rfl, SqL.of ht', rfl, _, rfl, ?_⟩
 refine ⟨_, c.ns, _, _, rfl, R2.sc.seq, hl, by omega, by omega, hm, fun r h0 h1 => ?_⟩
 exact fin (.d (.int r)) O [some (.tape (k + 1)), some (.d (.int many))] _ _ _ (q r h0 h1) ⟨R2, qa3t r⟩
end
section
variable {P : Program} {w : World} {K : W.Frag} {mg : Str -> Option Value} {base : Heap} {n : Nat}
noncomputable abbrev qb2v (P : Program) (w : World) (K : W.Frag) (mg : Str -> Option Value) (base : Heap) (n : Nat) (f : Addr) (fd : FuncData) : Prop := FnOk P w K mg base CX0 n f fd ["_law_tape", "_law_many"] (spD K qd1a)
noncomputable abbrev qb2w (K : W.Frag) (mg : Str -> Option Value) (f : Addr) (fd : FuncData) : Prop := Def K mg "_law_next" qa4s ["_law_tape", "_law_many"] f fd
end
noncomputable def low (c : Nat) : Bool := decide (97 <= c) && decide (c <= 122)
noncomputable def qa1i (x : Str) : Bool := decide (1 <= x.length) && decide (x.length <= 8) && x.cps.toList.all low
noncomputable def isName : PyData -> Bool
 | .str x => qa1i x
 | _ => false
theorem leC_a (c : Nat) : leC "a" ⟨#[c]⟩ = decide (97 <= c) := by
 have e : (Str.ofString "a").cps.toList = [97] := by decide +kernel
 unfold leC
 rw [e]
 show decide ([97] <= [c]) = _
 rw [Bool.eq_iff_iff]
 simp [List.cons_le_cons_iff]
 omega
theorem leC_z (c : Nat) : leC ⟨#[c]⟩ "z" = decide (c <= 122) := by
 have e : (Str.ofString "z").cps.toList = [122] := by decide +kernel
 unfold leC
 rw [e]
 show decide ([c] <= [122]) = _
 rw [Bool.eq_iff_iff]
 simp [List.cons_le_cons_iff]
 omega
theorem fLen_s {x : Str} (h : x.length <= 1000) : fLen [.str x] = some (.int (x.length : Int)) := if_pos (by rw [sizeLine_eq]; omega)
noncomputable def qb0b : DSp := fun ls Q => ∃ d : PyData, ls = [.d d] /\ (∀ x, d = .str x -> x.length <= 1000) /\ Q (.d (.bool (isName d))) [none]
theorem qc4o (x : Str) : x.cps.toList.length = x.length := by simp [Str.length]
section
variable {P : Program} {w : World} {K : W.Frag} {mg : Str -> Option Value} {base : Heap} {n : Nat}
noncomputable abbrev qa4t : Stmt := top 2
theorem qe1x : FnScope ["thing"] ["thing"] (qa0h qa4t) := ⟨rfl, rfl, rfl, by decide +kernel, rfl, by decide +kernel, by decide +kernel⟩
theorem ok_name {f : Addr} {fd : FuncData} (F : Fun K "is_name" "is_name" qa4t f fd) (B : Bl mg) (m_LONGEST_NAME : ∃ t, mg "LONGEST_NAME" = some (.int 8 t)) : FnOk P w K mg base CX0 (n + 1) f fd ["thing"] (spD K qb0b) := by
 refine F.dok qe1x (fun cdv A outer s H E hr ls Qd h => ?_) (fun ls Qd ⟨_, e, _⟩ => by rw [e]; rfl)
 obtain ⟨d, rfl, hl, q⟩ := h
 refine ⟨rfl, ?_⟩
 refine ⟨_, (qa0f (qa1f (qa3b (qa2b (qa4r rfl B.isinstance_ rfl B.str_ qb1r rfl (dv 0))))
  (qa0i (qa0k qa2v))
  qa0p)
  (qa0i (qa0k (qa4h (qb5f op_le (qa2r _) op_le (qa2r _) qa0c (qa1l qa0w qa1w rfl B.len_ qa1s (qa0a (dv 0) qa0b)) (qb4m rfl m_LONGEST_NAME)) (qa5m (qa1l (qe4k rfl) ad_allB rfl B.all_ bt_all (qa0a (qa1m (qa6v ["sign"] [] rfl (by rfl) (by decide +kernel) (di_str (dv 0)) (fun _ _ _ => (qa1u (i := 0) (show (["sign"] : List Str).Nodup by decide +kernel) rfl (Or.inl rfl))) (fun _ _ _ => qa7o) (fun _ _ _ => (qb5f qd0s qd0t qd0s qd0t qa0d (dv 0) qa0d)))) qa0b))))))), ?_⟩
 walk_at "dd"
 cases d with
 | str x =>
  rw [show isD "str" (.str x) = true from rfl]
  walk_at "dd"
  have hx := hl x rfl
  rw [fLen_s (by omega), qa1c]
  walk_at "dd"
  refine qa0t (fun c1 => ?_) (fun c1 => ?_)
  ·walk_at "dd"
   refine qa0t (fun c2 => ?_) (fun c2 => ?_)
   ·refine ⟨by rw [List.length_map, qc4o]; omega, ?_⟩
    refine L2.qa9f (fun ρ => ∃ v0 : Option L, ρ = [v0]) (fun d => match d with | .str z => some (.bool (z.cps.toList.all low)) | _ => none) ⟨_, rfl⟩ ?_ ?_
    ·rintro y ρ N hy ⟨v0, rfl⟩ hN
     obtain ⟨c, hc, rfl⟩ := List.mem_map.mp hy
     walk_at "dd"
     rw [leC_a, leC_z]
     have el : (Str.cps ⟨#[c]⟩).toList.all low = (decide (97 <= c) && decide (c <= 122)) := by simp [low]
     simp only [el] at hN
     refine qa0t (fun c3 => ?_) (fun c3 => ?_)
     ·walk_at "dd"
      rw [decide_eq_true c3, Bool.true_and] at hN
      exact hN _ ⟨_, rfl⟩
     ·walk_at "dd"
      rw [decide_eq_false c3, Bool.false_and] at hN
      exact hN _ ⟨_, rfl⟩
    ·rintro ρ _
     have ef : (signs x).filterMap (fun d => match d with | .str z => some (PyData.bool (z.cps.toList.all low)) | _ => none) = (x.cps.toList.map low).map .bool := by
      unfold signs
      generalize x.cps.toList = l
      induction l with
      | nil => rfl
      | cons c r ih => rw [List.map_cons, List.filterMap_cons, ih]; simp
     rw [ef, qe6m, qa1c]
     have en : isName (.str x) = (x.cps.toList.map low).all id := by
      show qa1i x = _
      unfold qa1i
      rw [decide_eq_true (show 1 <= x.length by omega), decide_eq_true (show x.length <= 8 by omega)]
      simp
     rw [← en]
     exact q
   ·have en : isName (.str x) = false := by
     show qa1i x = _
     unfold qa1i
     rw [decide_eq_false (show ¬ x.length <= 8 by omega)]
     simp
    rw [en] at q
    exact q
  ·have en : isName (.str x) = false := by
    show qa1i x = _
    unfold qa1i
    rw [decide_eq_false (show ¬ 1 <= x.length by omega)]
    simp
   rw [en] at q
   exact q
 | _ =>
  first
   | rw [show isD "str" PyData.none = false from rfl]
   | (rename_i y; rw [show isD "str" (PyData.bool y) = false from rfl])
   | (rename_i y; rw [show isD "str" (PyData.int y) = false from rfl])
   | (rename_i y; rw [show isD "str" (PyData.list y) = false from rfl])
   | (rename_i y; rw [show isD "str" (PyData.tuple y) = false from rfl])
   | (rename_i y; rw [show isD "str" (PyData.dict y) = false from rfl])
  walk_at "dd"
  exact q
end
noncomputable def rise (ahead : Str) : List PyData -> Bool
 | [] => true
 | .str x :: r => qa1i x && !leC x ahead && rise x r
 | _ :: _ => false
noncomputable def qa2z : PyData -> Bool
 | .tuple xs => decide (1 <= xs.length) && decide (xs.length <= 4) && rise "" xs
 | _ => false
noncomputable def isStep : PyData -> Bool
 | .tuple [.str x] => decide (x = "on") || decide (x = "back")
 | .tuple [.str x, y] => (decide (x = "one") || decide (x = "pool")) && qa2z y
 | _ => false
mutual
noncomputable def Fn (c : Nat) : PyData -> Prop
 | .str x => x.length <= c
 | .tuple xs => xs.length <= c /\ qa1z c xs
 | .none => True
 | .bool _ => True
 | .int i => -(c : Int) <= i /\ i <= (c : Int)
 | .list _ => True
 | .dict _ => True
noncomputable def qa1z (c : Nat) : List PyData -> Prop
 | [] => True
 | x :: r => Fn c x /\ qa1z c r
end
theorem qa1z.mem {c : Nat} : ∀ {xs : List PyData}, qa1z c xs -> ∀ x ∈ xs, Fn c x
 | y :: r, h, x, hx => by
  rcases List.mem_cons.mp hx with rfl | hx
  ·exact h.1
  ·exact qa1z.mem h.2 x hx
theorem qa1z.of {c : Nat} : ∀ {xs : List PyData}, (∀ x ∈ xs, Fn c x) -> qa1z c xs
 | [], _ => trivial
 | x :: r, h => ⟨h x (List.mem_cons_self ..), qa1z.of fun y hy => h y (List.mem_cons_of_mem _ hy)⟩
mutual
theorem Fn.up {c c' : Nat} (hc : c <= c') : ∀ {d : PyData}, Fn c d -> Fn c' d
 | .str _, h => Nat.le_trans h hc
 | .tuple xs, h => ⟨Nat.le_trans h.1 hc, qa1z.up hc h.2⟩
 | .int i, h => ⟨by have := h.1; omega, by have := h.2; omega⟩
 | .none, _ => trivial
 | .bool _, _ => trivial
 | .list _, _ => trivial
 | .dict _, _ => trivial
theorem qa1z.up {c c' : Nat} (hc : c <= c') : ∀ {xs : List PyData}, qa1z c xs -> qa1z c' xs
 | [], _ => trivial
 | _ :: _, h => ⟨Fn.up hc h.1, qa1z.up hc h.2⟩
end
theorem Fn.str {c : Nat} {d : PyData} (h : Fn c d) (hc : c <= 1000) : ∀ x, d = .str x -> x.length <= 1000 := fun x e => by
 subst e
 exact Nat.le_trans h hc
noncomputable def qd1b : DSp := fun ls Q => ∃ xs : List PyData, ls = [.d (.tuple xs)] /\ qa1z 100 xs /\ Q (.d (.bool (rise "" xs))) [none]
noncomputable def qa7p : DSp := fun ls Q => ∃ d : PyData, ls = [.d d] /\ Fn 100 d /\ Q (.d (.bool (qa2z d))) [none]
noncomputable def qb4q : DSp := fun ls Q => ∃ d : PyData, ls = [.d d] /\ Fn 100 d /\ Q (.d (.bool (isStep d))) [none]
theorem qe0h {p : Str} {d : PyData} {r : List PyData} (h : isName d = false) : rise p (d :: r) = false := by
 cases d with
 | str x => show (qa1i x && !leC x p && rise x r) = false; rw [show qa1i x = false from h]; rfl
 | _ => rfl
theorem qb5j {d : PyData} (h : isName d = true) : ∃ x, d = .str x /\ qa1i x = true := by
 cases d with
 | str x => exact ⟨x, rfl, h⟩
 | _ => cases h
theorem qa7q {d : PyData} : isD "tuple" d = true ↔ ∃ xs, d = .tuple xs := by
 cases d with
 | tuple xs => exact ⟨fun _ => ⟨xs, rfl⟩, fun _ => rfl⟩
 | none => exact ⟨(fun h => nomatch h), (fun ⟨_, h⟩ => nomatch h)⟩
 | bool b => exact ⟨(fun h => nomatch h), (fun ⟨_, h⟩ => nomatch h)⟩
 | int b => exact ⟨(fun h => nomatch h), (fun ⟨_, h⟩ => nomatch h)⟩
 | str b => exact ⟨(fun h => nomatch h), (fun ⟨_, h⟩ => nomatch h)⟩
 | list b => exact ⟨(fun h => nomatch h), (fun ⟨_, h⟩ => nomatch h)⟩
 | dict b => exact ⟨(fun h => nomatch h), (fun ⟨_, h⟩ => nomatch h)⟩
theorem qd1c {d : PyData} (h : isD "tuple" d = false) : qa2z d = false := by
 cases d with
 | tuple xs => cases h
 | _ => rfl
noncomputable def qb1c (a b : Str) : PyData -> Bool
 | .str z => decide (z = a) || decide (z = b)
 | _ => false
theorem qd1d {x : PyData} {a b : Str} : fInX false x (.tuple [.str a, .str b]) = some (.bool (qb1c a b x)) := by
 have hb : ([PyData.str a, PyData.str b]).all qa1o = true := rfl
 cases x with
 | str z =>
  rw [qc3m rfl, fIn_f (by rw [hb]; rfl)]
  have : inF (.str z) [.str a, .str b] = qb1c a b (.str z) := by
   unfold inF qb1c
   rw [List.any_cons, List.any_cons, List.any_nil, Bool.or_false]
   show ((a == z) || (b == z)) = (decide (z = a) || decide (z = b))
   rw [Bool.eq_iff_iff]
   simp only [Bool.or_eq_true, beq_iff_eq, decide_eq_true_eq]
   exact ⟨fun h => h.imp Eq.symm Eq.symm, fun h => h.imp Eq.symm Eq.symm⟩
  rw [this]; rfl
 | none => rw [qc3m rfl, fIn_f (by rw [hb]; rfl)]; rfl
 | bool y => rw [qc3m rfl, fIn_f (by rw [hb]; rfl)]; rfl
 | int y => rw [qc3m rfl, fIn_f (by rw [hb]; rfl)]; rfl
 | list y => exact qd0v (ss := [a, b]) rfl
 | tuple y => exact qd0v (ss := [a, b]) rfl
 | dict y => exact qd0v (ss := [a, b]) rfl
theorem qd1e {x : PyData} : isStep (.tuple [x]) = qb1c "on" "back" x := by
 cases x <;> rfl
theorem qb8p {x y : PyData} : isStep (.tuple [x, y]) = (qb1c "one" "pool" x && qa2z y) := by
 cases x <;> rfl
theorem qd1f {xs : List PyData} (h1 : xs.length ≠ 1) (h2 : xs.length ≠ 2) : isStep (.tuple xs) = false := by
 match xs, h1, h2 with
 | [], _, _ => rfl
 | [_], h, _ => exact absurd rfl h
 | [_, _], _, h => exact absurd rfl h
 | x :: _ :: _ :: _, _, _ => cases x <;> rfl
theorem qe0i {d : PyData} (h : isD "tuple" d = false) : isStep d = false := by
 cases d with
 | tuple xs => cases h
 | _ => rfl
section
variable {P : Program} {w : World} {K : W.Frag} {mg : Str -> Option Value} {base : Heap} {n : Nat}
noncomputable abbrev qa1x : Stmt := top 3
theorem qa4k : FnScope ["things", "ahead", "thing"] ["things"] (qa0h qa1x) := ⟨rfl, rfl, rfl, by decide +kernel, rfl, by decide +kernel, by decide +kernel⟩
theorem ok_rise {f f1 : Addr} {fd fd1 : FuncData} (F : Fun K "are_rising_names" "are_rising_names" qa1x f fd) (B : Bl mg) (d_is_name : Def K mg "is_name" qa4t ["thing"] f1 fd1) (g_is_name : FnOk P w K mg base CX0 n f1 fd1 ["thing"] (spD K qb0b)) : FnOk P w K mg base CX0 (n + 1) f fd ["things"] (spD K qd1b) := by
 refine F.dok qa4k (fun cdv A outer s H E hr ls Qd h => ?_) (fun ls Qd ⟨_, e, _⟩ => by rw [e]; rfl)
 obtain ⟨xs, rfl, hf, q⟩ := h
 refine ⟨rfl, ?_⟩
 refine ⟨_, (qa0f (qa1g (i := 1) qa4k.nd rfl (Or.inl rfl) qa0d)
  (qa0f (qa7z PassesOwn.never rfl (qa6b (dv 0)) (qa1u (i := 2) qa4k.nd rfl (Or.inl rfl))
  (qa0f (qa1f (DW.toT (qa3u (qa3b (qa2b (qa0g [false] d_is_name g_is_name hr rfl (qa0a (dv 2) qa0b)))) (qa4q (qa0o qd0s qd0t (dv 2) (dv 1) (qa0m _)))))
  (qa0i (qa0k qa2v))
  qa0p)
  (qa0i (qa1g (i := 1) qa4k.nd rfl (Or.inl rfl) (dv 2)))))
  (qa0i (qa0k qa2v)))), ?_⟩
 walk_at "dd"
 refine qa5x (fun i ρ => ∃ (v2 : Option L) (p : Str), ρ = [some (.d (.tuple xs)), some (.d (.str p)), v2] /\ rise "" xs = rise p (xs.drop i)) ⟨none, "", rfl, rfl⟩ ?_ ?_
 ·rintro i x ρ N hx ⟨v2, p, rfl, hr⟩ hN
  obtain ⟨hi, ex⟩ := List.getElem?_eq_some_iff.mp hx
  have ed : xs.drop i = x :: xs.drop (i + 1) := by rw [← ex]; exact List.drop_eq_getElem_cons hi
  rw [ed] at hr
  have hfx := hf.mem x (List.mem_of_getElem? hx)
  walk_at "dd"
  refine ⟨x, rfl, hfx.str (by decide), ?_⟩
  walk_at "dd"
  cases hn : isName x with
  | false =>
   walk_at "dd"
   rw [hr, qe0h hn] at q
   exact q
  | true =>
   obtain ⟨z, rfl, hz⟩ := qb5j hn
   walk_at "dd"
   have er : rise p (.str z :: xs.drop (i + 1)) = (!leC z p && rise z (xs.drop (i + 1))) := by
    show (qa1i z && !leC z p && rise z (xs.drop (i + 1))) = _
    rw [hz, Bool.true_and]
   cases hc : leC z p with
   | true =>
    walk_at "dd"
    rw [hr, er, hc] at q
    exact q
   | false =>
    walk_at "dd"
    rw [hc] at er
    exact hN _ ⟨_, z, rfl, by rw [hr, er]; rfl⟩
 ·rintro ρ ⟨v2, p, rfl, hr⟩
  rw [List.drop_length] at hr
  walk_at "dd"
  rw [hr] at q
  exact q
noncomputable abbrev qa4b : Stmt := top 10
theorem qd4p : FnScope ["thing"] ["thing"] (qa0h qa4b) := ⟨rfl, rfl, rfl, by decide +kernel, rfl, by decide +kernel, by decide +kernel⟩
theorem qe6s {f f1 : Addr} {fd fd1 : FuncData} (F : Fun K "is_hands" "is_hands" qa4b f fd) (B : Bl mg) (m_MOST_HANDS : ∃ t, mg "MOST_HANDS" = some (.int 4 t)) (d_are_rising_names : Def K mg "are_rising_names" qa1x ["things"] f1 fd1) (g_are_rising_names : FnOk P w K mg base CX0 n f1 fd1 ["things"] (spD K qd1b)) : FnOk P w K mg base CX0 (n + 1) f fd ["thing"] (spD K qa7p) := by
 refine F.dok qd4p (fun cdv A outer s H E hr ls Qd h => ?_) (fun ls Qd ⟨_, e, _⟩ => by rw [e]; rfl)
 obtain ⟨d, rfl, hf, q⟩ := h
 refine ⟨rfl, ?_⟩
 refine ⟨_, (qa0f (qa1f (qa3b (qa2b (qa4r rfl B.isinstance_ rfl B.tuple_ qa6j rfl (dv 0))))
  (qa0i (qa0k qa2v))
  qa0p)
  (qa0i (qa0k (qa4h (qb5f op_le (qa2r _) op_le (qa2r _) qa0c (qa1l qa0w qa1w rfl B.len_ qa1s (qa0a (dv 0) qa0b)) (qb4m rfl m_MOST_HANDS)) (qa5m (qa0g [false] d_are_rising_names g_are_rising_names hr rfl (qa0a (dv 0) qa0b))))))), ?_⟩
 walk_at "dd"
 cases ht : isD "tuple" d with
 | false =>
  walk_at "dd"
  rw [qd1c ht] at q
  exact q
 | true =>
  obtain ⟨xs, rfl⟩ := qa7q.mp ht
  walk_at "dd"
  have e : qa2z (.tuple xs) = (decide (1 <= xs.length) && decide (xs.length <= 4) && rise "" xs) := rfl
  refine qa0t (fun c1 => ?_) (fun c1 => ?_)
  ·walk_at "dd"
   refine qa0t (fun c2 => ?_) (fun c2 => ?_)
   ·refine ⟨xs, rfl, hf.2, ?_⟩
    walk_at "dd"
    rw [e, decide_eq_true (show 1 <= xs.length by omega), decide_eq_true (show xs.length <= 4 by omega)] at q
    exact q
   ·rw [e, decide_eq_false (show ¬ xs.length <= 4 by omega), Bool.and_false, Bool.false_and] at q
    exact q
  ·rw [e, decide_eq_false (show ¬ 1 <= xs.length by omega), Bool.false_and, Bool.false_and] at q
   exact q
noncomputable abbrev qa5q : Stmt := top 11
theorem qe1y : FnScope ["thing"] ["thing"] (qa0h qa5q) := ⟨rfl, rfl, rfl, by decide +kernel, rfl, by decide +kernel, by decide +kernel⟩
theorem ok_step {f f1 : Addr} {fd fd1 : FuncData} (F : Fun K "is_step" "is_step" qa5q f fd) (B : Bl mg) (d_is_hands : Def K mg "is_hands" qa4b ["thing"] f1 fd1) (g_is_hands : FnOk P w K mg base CX0 n f1 fd1 ["thing"] (spD K qa7p)) : FnOk P w K mg base CX0 (n + 1) f fd ["thing"] (spD K qb4q) := by
 refine F.dok qe1y (fun cdv A outer s H E hr ls Qd h => ?_) (fun ls Qd ⟨_, e, _⟩ => by rw [e]; rfl)
 obtain ⟨d, rfl, hf, q⟩ := h
 refine ⟨rfl, ?_⟩
 refine ⟨_, (qa0f (qa1f (qa3b (qa2b (qa4r rfl B.isinstance_ rfl B.tuple_ qa6j rfl (dv 0))))
  (qa0i (qa0k qa2v))
  qa0p)
  (qa0f (qa1f (qa0o (qa1e hr.units) qa1d (qa1l qa0w qa1w rfl B.len_ qa1s (qa0a (dv 0) qa0b)) qa0c (qa0m _))
  (qa0i (qa0k (qa2l (op_inX hr.units) ad_inX (qa0r qa0n qa0s (dv 0) qa0c (fun _ _ => rfl)) (qa0j (qa0a qa0d (qa0a qa0d qa0b))) (by rfl))))
  qa0p)
  (qa0i (qa0k (qa4h (qa2l (qa1e hr.units) qa1d (qa1l qa0w qa1w rfl B.len_ qa1s (qa0a (dv 0) qa0b)) qa0c (qa0m _)) (qa4h (qa2l (op_inX hr.units) ad_inX (qa0r qa0n qa0s (dv 0) qa0c (fun _ _ => rfl)) (qa0j (qa0a qa0d (qa0a qa0d qa0b))) (by rfl)) (qa5m (qa0g [false] d_is_hands g_is_hands hr rfl (qa0a (qa0r qa0n qa0s (dv 0) qa0c (fun _ _ => rfl)) qa0b))))))))), ?_⟩
 walk_at "dd"
 cases ht : isD "tuple" d with
 | false =>
  walk_at "dd"
  rw [qe0i ht] at q
  exact q
 | true =>
  obtain ⟨xs, rfl⟩ := qa7q.mp ht
  walk_at "dd"
  refine qa0t (fun c1 => ?_) (fun c1 => ?_)
  ·obtain ⟨x, rfl⟩ := l1 (r := xs) (by first | omega | (simp at c1; omega))
   walk_at "dd"
   rw [qd1d, qa1c]
   rw [qd1e] at q
   exact q
  ·walk_at "dd"
   refine qa0t (fun c2 => ?_) (fun c2 => ?_)
   ·obtain ⟨x, y, rfl⟩ := l2 (r := xs) (by first | omega | (simp at c2; omega))
    walk_at "dd"
    rw [qd1d, qa1c]
    walk_at "dd"
    rw [qb8p] at q
    cases hi : qb1c "one" "pool" x with
    | false =>
     rw [hi] at q
     walk_at "dd"
     exact q
    | true =>
     rw [hi, Bool.true_and] at q
     walk_at "dd"
     refine ⟨y, rfl, hf.2.2.1, ?_⟩
     walk_at "dd"
     exact q
   ·walk_at "dd"
    rw [qd1f (by omega) (by omega)] at q
    exact q
end
theorem qd4q (c : Nat) : ((Str.ofString "abcdefghijklmnopqrstuvwxyz").cps.toList.contains c) = low c := by
 have e : (Str.ofString "abcdefghijklmnopqrstuvwxyz").cps.toList = List.range' 97 26 := by decide +kernel
 rw [e, Bool.eq_iff_iff, List.contains_iff_mem, List.mem_range']
 unfold low
 rw [Bool.and_eq_true, decide_eq_true_eq, decide_eq_true_eq]
 constructor
 ·rintro ⟨i, hi, rfl⟩; omega
 ·rintro ⟨h1, h2⟩; exact ⟨c - 97, by omega, by omega⟩
theorem leC_iff {a b : Str} : leC a b = true ↔ Sx.leS a b := by unfold leC Sx.leS; exact decide_eq_true_iff
theorem qe4n {ss : List Str} (h : ss.Pairwise fun a b => ¬ Sx.leS b a) : Sx.srtS (Sx.uniq ss) = ss := by
 have nd : ss.Nodup := h.imp fun {a b} hab e => hab (by rw [e]; exact List.le_refl _)
 have pm : (Sx.uniq ss).Perm ss := (List.perm_ext_iff_of_nodup (Sx.qc3h ss) nd).mpr fun a => Sx.qd0m
 exact (Sx.qe0c pm.symm (h.imp fun {a b} hab => (Sx.qb8o a b).resolve_right hab)).symm
theorem qe4o {ss : List Str} (h : Sx.srtS (Sx.uniq ss) = ss) : ss.Pairwise fun a b => ¬ Sx.leS b a := by
 have h1 := Sx.qe0b (Sx.uniq ss)
 have h2 : (Sx.srtS (Sx.uniq ss)).Nodup := (Sx.qb2u _).nodup_iff.mpr (Sx.qc3h ss)
 rw [h] at h1 h2
 exact List.Pairwise.imp₂ (fun a b hab hne hba => hne (Sx.qd0r a b hab hba)) h1 h2
theorem qd1g : ∀ (ss : List Str) (p : Str), (∀ z ∈ ss, qa1i z = true) -> (rise p (ss.map .str) = true ↔ (p :: ss).Pairwise fun a b => ¬ Sx.leS b a)
 | [], p, _ => by simp [rise]
 | x :: r, p, h => by
  show (qa1i x && !leC x p && rise x (r.map .str)) = true ↔ _
  rw [h x List.mem_cons_self, Bool.true_and, Bool.and_eq_true, qd1g r x fun z hz => h z (List.mem_cons_of_mem _ hz), Bool.not_eq_true', ← Bool.not_eq_true, leC_iff]
  constructor
  ·rintro ⟨h1, h2⟩
   refine List.pairwise_cons.mpr ⟨fun y hy => ?_, h2⟩
   rcases List.mem_cons.mp hy with rfl | hy
   ·exact h1
   ·have h3 := List.rel_of_pairwise_cons h2 hy
    intro h4
    have h5 := (Sx.qb8o x y).resolve_right h3
    exact h1 (Sx.qb8n h5 h4)
  ·intro h2
   exact ⟨List.rel_of_pairwise_cons h2 List.mem_cons_self, (List.pairwise_cons.mp h2).2⟩
theorem nil_le {x : Str} (h : qa1i x = true) : ¬ Sx.leS x "" := by
 intro h2
 have e : (Str.ofString "").cps.toList = [] := by decide +kernel
 unfold Sx.leS at h2
 rw [e] at h2
 have hl : x.cps.toList = [] := by
  cases q : x.cps.toList with
  | nil => rfl
  | cons a r => rw [q] at h2; simp at h2
 unfold qa1i at h
 simp only [Bool.and_eq_true, decide_eq_true_eq] at h
 have := qc4o x
 rw [hl] at this
 simp at this
 omega
theorem qe6t {ss : List Str} (h : ∀ z ∈ ss, qa1i z = true) : rise "" (ss.map .str) = decide (Sx.srtS (Sx.uniq ss) = ss) := by
 rw [Bool.eq_iff_iff, qd1g ss "" h, decide_eq_true_eq]
 constructor
 ·intro hp
  exact qe4n (List.pairwise_cons.mp hp).2
 ·intro he
  exact List.pairwise_cons.mpr ⟨fun y hy => nil_le (h y hy), qe4o he⟩
theorem qb5k {x : Str} (h : qa1i x = true) : PyData.strOk x = true := by
 unfold qa1i at h
 simp only [Bool.and_eq_true, decide_eq_true_eq] at h
 have h2 := h.2
 unfold PyData.strOk
 rw [← Array.all_toList]
 rw [List.all_eq_true] at h2 ⊢
 intro c hc
 have := h2 c hc
 unfold low at this
 simp only [Bool.and_eq_true, decide_eq_true_eq] at this
 simp
 omega
theorem qc7a : ∀ {xs : List PyData}, (∀ d ∈ xs, isName d = true) -> ∃ ss : List Str, xs = ss.map .str /\ ∀ z ∈ ss, qa1i z = true
 | [], _ => ⟨[], rfl, fun z hz => absurd hz List.not_mem_nil⟩
 | d :: r, h => by
  obtain ⟨x, rfl, hx⟩ := qb5j (h d List.mem_cons_self)
  obtain ⟨ss, rfl, hs⟩ := qc7a (xs := r) fun d hd => h d (List.mem_cons_of_mem _ hd)
  refine ⟨x :: ss, rfl, fun z hz => ?_⟩
  rcases List.mem_cons.mp hz with rfl | hz
  ·exact hx
  ·exact hs z hz
theorem qd1h : ∀ {xs : List PyData} {p : Str}, (∃ d ∈ xs, isName d = false) -> rise p xs = false
 | d :: r, p, h => by
  cases hn : isName d with
  | false => exact qe0h hn
  | true =>
   obtain ⟨x, rfl, hx⟩ := qb5j hn
   obtain ⟨d', hd', hf⟩ := h
   rcases List.mem_cons.mp hd' with rfl | hd'
   ·rw [hn] at hf; cases hf
   ·show (qa1i x && !leC x p && rise x r) = false
    rw [qd1h ⟨d', hd', hf⟩, Bool.and_false]
theorem eqvs : ∀ (a b : List Str), PyData.eqvAll (a.map .str) (b.map .str) = decide (a = b)
 | [], [] => by simp [PyData.eqvAll]
 | [], _ :: _ => by simp [PyData.eqvAll]
 | _ :: _, [] => by simp [PyData.eqvAll]
 | x :: r, y :: t => by
  show PyData.eqvAll (.str x :: r.map .str) (.str y :: t.map .str) = _
  rw [PyData.eqvAll, eqvs r t, PyData.eqv]
  rw [Bool.eq_iff_iff]
  simp
theorem qb2y {ns : List Str} (h : ∀ s ∈ ns, PyData.strOk s = true) : SeqAt.shaped (.list (ns.map .str)) = true := by
 have h1 : PyData.canLayAll0 (ns.map .str) = true := by
  induction ns with
  | nil => rfl
  | cons s r ih => simp [PyData.canLayAll0, PyData.canLay0, h s (List.mem_cons_self ..), ih fun z hz => h z (List.mem_cons_of_mem _ hz)]
 have h2 : PyData.depthAll (ns.map .str) = 0 := by
  clear h h1
  induction ns with
  | nil => rfl
  | cons s r ih => simp [PyData.depthAll, PyData.depth, ih]
 simp [SeqAt.shaped, PyData.canLay0, h1, PyData.depth, h2]
theorem qe4p (b : Bool) (xs : List Bool) : inF (.bool b) (xs.map .bool) = xs.contains b := by
 induction xs with
 | nil => rfl
 | cons x r ih =>
  unfold inF at ih ⊢
  rw [List.map_cons, List.any_cons, ih, List.contains_cons]
  cases x <;> cases b <;> rfl
theorem qb8q {neg : Bool} {b : Bool} {xs : List Bool} : fIn neg (.bool b) (.list (xs.map .bool)) = some (.bool (if neg then !xs.contains b else xs.contains b)) := by
 have h1 : (xs.map PyData.bool).all qa1o = true := by
  induction xs with
  | nil => rfl
  | cons x r ih => rw [List.map_cons, List.all_cons, ih]; rfl
 rw [qc3c (by rw [h1]; rfl), qe4p]
section
variable {P : Program} {w : World} {K : W.Frag} {mg : Str -> Option Value} {base : Heap} {n : Nat}
noncomputable abbrev qa3k : Stmt := top 34
theorem qb8r : FnScope ["_law_thing", "_law_letters"] ["_law_thing"] (qa0h qa3k) := ⟨rfl, rfl, rfl, by decide +kernel, rfl, by decide +kernel, by decide +kernel⟩
theorem qe6u {f : Addr} {fd : FuncData} (F : Fun K "_law_named" "_law_named" qa3k f fd) (B : Bl mg) : FnOk P w K mg base CX0 (n + 1) f fd ["_law_thing"] (spD K qb0b) := by
 refine F.dok qb8r (fun cdv A outer s H E hr ls Qd h => ?_) (fun ls Qd ⟨_, e, _⟩ => by rw [e]; rfl)
 obtain ⟨d, rfl, hl, q⟩ := h
 refine ⟨rfl, ?_⟩
 refine ⟨_, (qa0f (qa1g (i := 1) qb8r.nd rfl (Or.inr rfl) qa0d)
  (qa0i (qa0k (qa4h (qa4r rfl B.isinstance_ rfl B.str_ qb1r rfl (dv 0)) (qa4h (qb5f qa6f (qa2r _) qa6f (qa2r _) qa0c (qa1l qa0w qa1w rfl B.len_ qa1s (qa0a (dv 0) qa0b)) qa0c) (qa5m (qa2l ((op_eqS hr.units).or (op_eqD hr.units)) ad_eqN (qa1m (qa6v ["_law_sign"] [("_law_letters", 1)] rfl (by rfl) (by decide +kernel) (di_str (dv 0)) (fun _ _ _ => (qa1u (i := 0) (show (["_law_sign", "_law_letters"] : List Str).Nodup by decide +kernel) rfl (Or.inl rfl))) (fun _ _ _ => (qc0d (qa0o qa7c qa5w (dv 0) (dv 1) (by rfl)))) (fun _ _ _ => (dv 0)))) (qa1m (qa1k qa0b)) (qa0m _)))))))), ?_⟩
 walk_at "dd"
 cases d with
 | str x =>
  have hx := hl x rfl
  rw [show isD "str" (.str x) = true from rfl]
  walk_at "dd"
  rw [fLen_s (by omega), qa1c]
  walk_at "dd"
  refine qa0t (fun c1 => ?_) (fun c1 => ?_)
  ·walk_at "dd"
   refine qa0t (fun c2 => ?_) (fun c2 => ?_)
   ·walk_at "dd"
    refine ⟨by rw [List.length_map, qc4o]; omega, ?_⟩
    refine L2.qa9f (fun ρ => ∃ v0 : Option L, ρ = [v0, some (.d (.str "abcdefghijklmnopqrstuvwxyz"))]) (fun d => match d with | .str z => if z.cps.toList.all low = true then none else some (.str z) | _ => none) ⟨_, rfl⟩ ?_ ?_
    ·rintro y ρ N hy ⟨v0, rfl⟩ hN
     obtain ⟨c, hc, rfl⟩ := List.mem_map.mp hy
     walk_at "dd"
     rw [qe6n, qd4q]
     have el : (Str.cps ⟨#[c]⟩).toList.all low = low c := by simp
     simp only [el] at hN
     walk_at "dd"
     cases hc : low c with
     | true =>
      rw [hc] at hN
      walk_at "dd"
      exact hN _ ⟨_, rfl⟩
     | false =>
      rw [hc] at hN
      walk_at "dd"
      exact hN _ ⟨_, rfl⟩
    ·rintro ρ _
     rw [fEqN_l, qa1c]
     have ef : ((signs x).filterMap (fun d => match d with | .str z => if z.cps.toList.all low = true then none else some (PyData.str z) | _ => none)).isEmpty = x.cps.toList.all low := by
      unfold signs
      generalize x.cps.toList = l
      induction l with
      | nil => rfl
      | cons c r ih =>
       rw [List.map_cons, List.filterMap_cons, List.all_cons]
       have el : (Str.cps ⟨#[c]⟩).toList.all low = low c := by simp
       simp only [el]
       cases hc : low c with
       | true => simp only [if_true, Bool.true_and]; exact ih
       | false => simp
     rw [ef]
     have en : isName (.str x) = x.cps.toList.all low := by
      show qa1i x = _
      unfold qa1i
      rw [decide_eq_true (show 1 <= x.length by omega), decide_eq_true (show x.length <= 8 by omega)]
      simp
     rw [← en]
     exact q
   ·walk_at "dd"
    have en : isName (.str x) = false := by
     show qa1i x = _
     unfold qa1i
     rw [decide_eq_false (show ¬ x.length <= 8 by omega)]
     simp
    rw [en] at q
    exact q
  ·walk_at "dd"
   have en : isName (.str x) = false := by
    show qa1i x = _
    unfold qa1i
    rw [decide_eq_false (show ¬ 1 <= x.length by omega)]
    simp
   rw [en] at q
   exact q
 | _ =>
  first
   | rw [show isD "str" PyData.none = false from rfl]
   | (rename_i y; rw [show isD "str" (PyData.bool y) = false from rfl])
   | (rename_i y; rw [show isD "str" (PyData.int y) = false from rfl])
   | (rename_i y; rw [show isD "str" (PyData.list y) = false from rfl])
   | (rename_i y; rw [show isD "str" (PyData.tuple y) = false from rfl])
   | (rename_i y; rw [show isD "str" (PyData.dict y) = false from rfl])
  walk_at "dd"
  exact q
noncomputable abbrev qa2d : Stmt := top 35
theorem qc1p : FnScope ["_law_thing"] ["_law_thing"] (qa0h qa2d) := ⟨rfl, rfl, rfl, by decide +kernel, rfl, by decide +kernel, by decide +kernel⟩
theorem ok_areh {f f1 : Addr} {fd fd1 : FuncData} (F : Fun K "_law_are_hands" "_law_are_hands" qa2d f fd) (B : Bl mg) (qa5g : Def K mg "_law_named" qa3k ["_law_thing"] f1 fd1) (qa9t : FnOk P w K mg base CX0 n f1 fd1 ["_law_thing"] (spD K qb0b)) : FnOk P w K mg base CX0 (n + 1) f fd ["_law_thing"] (spD K qa7p) := by
 refine F.dok qc1p (fun cdv A outer s H E hr ls Qd h => ?_) (fun ls Qd ⟨_, e, _⟩ => by rw [e]; rfl)
 obtain ⟨d, rfl, hf, q⟩ := h
 refine ⟨rfl, ?_⟩
 refine ⟨_, (qa0f (qa1f (DW.toT (qa3u (qa3b (qa2b (qa4r rfl B.isinstance_ rfl B.tuple_ qa6j rfl (dv 0)))) (qa4q (qa3b (qe5w qa6f (qa2r _) qa6f (qa2r _) qa0c (qa1l qa0w qa1w rfl B.len_ qa1s (qa0a (dv 0) qa0b)) qa0c)))))
  (qa0i (qa0k qa2v))
  qa0p)
  (qa0i (qa0k (qa4h (qa2l qa7c qa5w qa2v (qa1m (qa6v ["_law_one"] [] rfl (by rfl) (by decide +kernel) (qa6b (dv 0)) (fun _ _ _ => (qa1u (i := 0) (show (["_law_one"] : List Str).Nodup by decide +kernel) rfl (Or.inl rfl))) (fun _ _ _ => qa7o) (fun _ _ _ => (qa0g [false] qa5g qa9t hr rfl (qa0a (dv 0) qa0b))))) (by rfl)) (qa5m (qa2l (qa1e hr.units) qa1d (qa1m (qc6m qb8c qd8o rfl B.list_ qd8i (qa0a (dv 0) qa0b))) (de_setS rfl rfl B.set_ rfl B.sorted_ (qa0a (dv 0) qa0b)) (qa0m _))))))), ?_⟩
 walk_at "dd"
 cases ht : isD "tuple" d with
 | false =>
  walk_at "dd"
  rw [qd1c ht] at q
  exact q
 | true =>
  obtain ⟨xs, rfl⟩ := qa7q.mp ht
  have e : qa2z (.tuple xs) = (decide (1 <= xs.length) && decide (xs.length <= 4) && rise "" xs) := rfl
  walk_at "dd"
  refine qa0t (fun c1 => ?_) (fun c1 => ?_)
  ·rw [show (!decide ((xs.length : Int) < 5)) = decide (¬ (xs.length : Int) < 5) from (decide_not).symm]
   refine qa0t (fun c2 => ?_) (fun c2 => ?_)
   ·rw [e, decide_eq_false (show ¬ xs.length <= 4 by omega), Bool.and_false, Bool.false_and] at q
    exact q
   ·rw [e, decide_eq_true (show 1 <= xs.length by omega), decide_eq_true (show xs.length <= 4 by omega), Bool.true_and, Bool.true_and] at q
    walk_at "dd"
    refine ⟨by omega, ?_⟩
    refine qa9e (fun i ρ acc => ∃ v0 : Option L, ρ = [v0] /\ acc = ((xs.take i).map isName).map .bool) ⟨none, rfl, rfl⟩ ?_ ?_
    ·rintro i x ρ acc N hx ⟨v0, rfl, rfl⟩ hN
     walk_at "dd"
     refine ⟨x, rfl, (hf.2.mem x (List.mem_of_getElem? hx)).str (by decide), ?_⟩
     walk_at "dd"
     refine hN _ _ ⟨_, rfl, ?_⟩
     rw [List.take_add_one, hx]; simp
    ·rintro ρ acc ⟨v0, rfl, rfl⟩
     rw [List.take_length, qb8q]
     walk_at "dd"
     cases hc : (xs.map isName).contains false with
     | true =>
      walk_at "dd"
      obtain ⟨d, hd, hd2⟩ := List.mem_map.mp (List.contains_iff_mem.mp hc)
      rw [qd1h ⟨d, hd, hd2⟩] at q
      exact q
     | false =>
      walk_at "dd"
      have hall : ∀ d ∈ xs, isName d = true := fun d hd => by
       cases hn : isName d with
       | true => rfl
       | false =>
        have : (xs.map isName).contains false = true := List.contains_iff_mem.mpr (List.mem_map.mpr ⟨d, hd, hn⟩)
        rw [hc] at this
        cases this
      obtain ⟨ss, rfl, hs⟩ := qc7a hall
      rw [List.length_map] at c2
      rw [fSetS_t (by omega), qa1c]
      have hs2 : ∀ z ∈ Sx.srtS (Sx.uniq ss), qa1i z = true := fun z hz => hs z (Sx.qd0m.mp ((Sx.qb2u _).mem_iff.mp hz))
      rw [qc9j rfl (qb2y fun z hz => qb5k (hs z hz)) (qb2y fun z hz => qb5k (hs2 z hz)), PyData.eqv, eqvs]
      rw [qe6t hs] at q
      walk_at "dd"
      rw [show decide (ss = Sx.srtS (Sx.uniq ss)) = decide (Sx.srtS (Sx.uniq ss) = ss) by rw [Bool.eq_iff_iff]; simp only [decide_eq_true_eq]; exact ⟨Eq.symm, Eq.symm⟩]
      exact q
  ·rw [e, decide_eq_false (show ¬ 1 <= xs.length by omega), Bool.false_and, Bool.false_and] at q
   exact q
noncomputable abbrev qa3h : Stmt := top 36
theorem qc4p : FnScope ["_law_thing"] ["_law_thing"] (qa0h qa3h) := ⟨rfl, rfl, rfl, by decide +kernel, rfl, by decide +kernel, by decide +kernel⟩
theorem qe6v {f f1 : Addr} {fd fd1 : FuncData} (F : Fun K "_law_is_step" "_law_is_step" qa3h f fd) (B : Bl mg) (qa3v : Def K mg "_law_are_hands" qa2d ["_law_thing"] f1 fd1) (qa8b : FnOk P w K mg base CX0 n f1 fd1 ["_law_thing"] (spD K qa7p)) : FnOk P w K mg base CX0 (n + 1) f fd ["_law_thing"] (spD K qb4q) := by
 refine F.dok qc4p (fun cdv A outer s H E hr ls Qd h => ?_) (fun ls Qd ⟨_, e, _⟩ => by rw [e]; rfl)
 obtain ⟨d, rfl, hf, q⟩ := h
 refine ⟨rfl, ?_⟩
 refine ⟨_, (qa0f (qa1f (DW.toT (qa3u (qa3b (qa2b (qa4r rfl B.isinstance_ rfl B.tuple_ qa6j rfl (dv 0)))) (qa3u (qa0o (qa1e hr.units) qa1d (qa1l qa0w qa1w rfl B.len_ qa1s (qa0a (dv 0) qa0b)) qa0c (qa0m _)) (qa4q (qa3b (qa2b (qa4r rfl B.isinstance_ rfl B.str_ qb1r rfl (qa0r qa0n qa0s (dv 0) qa0c (fun _ _ => rfl)))))))))
  (qa0i (qa0k qa2v))
  qa0p)
  (qa0f (qa1f (qa0o qa5f qa5w (qa0r qa0n qa0s (dv 0) qa0c (fun _ _ => rfl)) (qa0j (qa0a qa0d (qa0a qa0d qa0b))) (by rfl))
  (qa0i (qa0k (qa4h (qa2l (qa1e hr.units) qa1d (qa1l qa0w qa1w rfl B.len_ qa1s (qa0a (dv 0) qa0b)) qa0c (qa0m _)) (qa5m (qa0g [false] qa3v qa8b hr rfl (qa0a (qa0r qa0n qa0s (dv 0) qa0c (fun _ _ => rfl)) qa0b))))))
  qa0p)
  (qa0i (qa0k (qa4h (qa2l (qa1e hr.units) qa1d (qa1l qa0w qa1w rfl B.len_ qa1s (qa0a (dv 0) qa0b)) qa0c (qa0m _)) (qa5m (qa2l qa5f qa5w (qa0r qa0n qa0s (dv 0) qa0c (fun _ _ => rfl)) (qa0j (qa0a qa0d (qa0a qa0d qa0b))) (by rfl)))))))), ?_⟩
 walk_at "dd"
 cases ht : isD "tuple" d with
 | false =>
  walk_at "dd"
  rw [qe0i ht] at q
  exact q
 | true =>
  obtain ⟨xs, rfl⟩ := qa7q.mp ht
  walk_at "dd"
  cases xs with
  | nil =>
   walk_at "dk"
   exact q
  | cons x r =>
   rw [show decide (((x :: r).length : Int) = 0) = false from decide_eq_false (by simp; omega)]
   walk_at "dd"
   cases x with
   | str z =>
    rw [show isD "str" (.str z) = true from rfl]
    walk_at "dd"
    by_cases c : z = "one" ∨ z = "pool"
    ·have hi : qb1c "one" "pool" (.str z) = true := by
      show (decide (z = "one") || decide (z = "pool")) = true
      rcases c with rfl | rfl <;> simp
     rw [if_pos (by rcases c with rfl | rfl <;> simp)]
     refine qa0t (fun c1 => ?_) (fun c1 => ?_)
     ·obtain ⟨y, rfl⟩ := l1 (r := r) (by first | omega | (simp at c1; omega))
      walk_at "dd"
      refine ⟨y, rfl, hf.2.2.1, ?_⟩
      rw [qb8p, hi, Bool.true_and] at q
      exact q
     ·have e0 : isStep (.tuple (.str z :: r)) = false := by
       cases r with
       | nil => rw [qd1e]; rcases c with rfl | rfl <;> decide +kernel
       | cons y r2 =>
        cases r2 with
        | nil => exact absurd (by simp) c1
        | cons _ _ => exact qd1f (by simp) (by simp)
      rw [e0] at q
      exact q
    ·have c1 : ¬ z = "one" := fun h => c (.inl h)
     have c2 : ¬ z = "pool" := fun h => c (.inr h)
     rw [if_neg (by
      rw [decide_eq_false (fun h => c1 (Eq.symm h)), decide_eq_false (fun h => c2 (Eq.symm h))]
      exact Bool.false_ne_true)]
     walk_at "dd"
     refine qa0t (fun c3 => ?_) (fun c3 => ?_)
     ·obtain rfl : r = [] := by
       match r, c3 with
       | [], _ => rfl
       | _ :: _, h => simp at h; omega
      walk_at "dd"
      rw [qd1e] at q
      have e0 : (decide (Str.ofString "on" = z) || decide (Str.ofString "back" = z)) = qb1c "on" "back" (.str z) := by
       show _ = (decide (z = Str.ofString "on") || decide (z = Str.ofString "back"))
       rw [Bool.eq_iff_iff]
       simp only [Bool.or_eq_true, decide_eq_true_eq]
       exact ⟨fun h => h.imp Eq.symm Eq.symm, fun h => h.imp Eq.symm Eq.symm⟩
      rw [e0]
      exact q
     ·walk_at "dd"
      have e0 : isStep (.tuple (.str z :: r)) = false := by
       match r, c3 with
       | [], h => simp at h
       | [y], _ =>
        rw [qb8p]
        have : qb1c "one" "pool" (.str z) = false := by
         show (decide (z = "one") || decide (z = "pool")) = false
         rw [decide_eq_false c1, decide_eq_false c2]; rfl
        rw [this]; rfl
       | _ :: _ :: _, _ => exact qd1f (by simp) (by simp)
      rw [e0] at q
      exact q
   | _ =>
    first
     | rw [show isD "str" PyData.none = false from rfl]
     | (rename_i y; rw [show isD "str" (PyData.bool y) = false from rfl])
     | (rename_i y; rw [show isD "str" (PyData.int y) = false from rfl])
     | (rename_i y; rw [show isD "str" (PyData.list y) = false from rfl])
     | (rename_i y; rw [show isD "str" (PyData.tuple y) = false from rfl])
     | (rename_i y; rw [show isD "str" (PyData.dict y) = false from rfl])
    walk_at "dd"
    first
     | exact q
     | (have q2 := q; rcases r with _ | ⟨y2, _ | ⟨y3, r2⟩⟩ <;> exact q2)
end
noncomputable def qc3n : List (Str × PyData) := [("fact", .tuple [.str "name", .int 0]), ("wish", .tuple [.str "name", .int 0]), ("not", .tuple [.str "", .int 1]), ("and", .tuple [.str "", .int 2]), ("or", .tuple [.str "", .int 2]), ("some", .tuple [.str "step", .int 1]), ("every", .tuple [.str "step", .int 1]), ("least", .tuple [.str "name", .int 1]), ("most", .tuple [.str "name", .int 1]), ("show", .tuple [.str "hands", .int 2])]
inductive Nd where
 | leaf (b : Bool) (nm : Str)
 | no (p : PyData)
 | two (w : Str) (p q : PyData)
 | mod (w : Str) (s p : PyData)
 | bind (w nm : Str) (p : PyData)
 | sho (h p q : PyData)
noncomputable def qa4l : PyData -> Option Str
 | .str x => if qa1i x = true then some x else none
 | _ => none
noncomputable def nd : PyData -> Option Nd
 | .tuple [.str w, x] => if w = "fact" then (qa4l x).map (Nd.leaf false) else if w = "wish" then (qa4l x).map (Nd.leaf true) else if w = "not" then some (.no x) else none
 | .tuple [.str w, x, y] => if w = "and" ∨ w = "or" then some (.two w x y) else if w = "some" ∨ w = "every" then (if isStep x = true then some (.mod w x y) else none) else if w = "least" ∨ w = "most" then (qa4l x).map fun nm => .bind w nm y else none
 | .tuple [.str w, x, y, z] => if w = "show" then (if qa2z x = true then some (.sho x y z) else none) else none
 | _ => none
theorem qa8c {d : PyData} : (qa4l d).isSome = isName d := by
 cases d with
 | str x =>
  show (if qa1i x = true then some x else none).isSome = qa1i x
  cases qa1i x <;> rfl
 | _ => rfl
noncomputable def headD : PyData -> Str
 | .tuple (.str w :: _) => w
 | _ => ""
noncomputable def qc3o (d : PyData) (z : Str) : Bool := if z = "name" then isName d else if z = "step" then isStep d else qa2z d
noncomputable def qc0g (xs : List PyData) (z : Str) (n : Nat) : Bool := if z = "" then decide ((xs.length : Int) = 1 + (n : Int)) else decide ((xs.length : Int) = 2 + (n : Int)) && (match xs[1]? with | some d => qc3o d z | none => false)
noncomputable def qa3d : List Str := ["fact", "wish", "not", "and", "or", "some", "every", "least", "most", "show"]
noncomputable def formOf (w : Str) : Str × Nat := if w = "fact" ∨ w = "wish" then ("name", 0) else if w = "not" then ("", 1) else if w = "and" ∨ w = "or" then ("", 2) else if w = "some" ∨ w = "every" then ("step", 1) else if w = "least" ∨ w = "most" then ("name", 1) else ("hands", 2)
theorem qe0j {w : Str} (h : w ∈ qa3d) : qc3n.lookup w = some (.tuple [.str (formOf w).1, .int (formOf w).2]) := by
 unfold qa3d at h
 simp only [List.mem_cons, List.not_mem_nil, or_false] at h
 rcases h with rfl | rfl | rfl | rfl | rfl | rfl | rfl | rfl | rfl | rfl <;> rfl
theorem nd_form {w : Str} (h : w ∈ qa3d) (r : List PyData) : qc0g (.str w :: r) (formOf w).1 (formOf w).2 = (nd (.tuple (.str w :: r))).isSome := by
 unfold qa3d at h
 simp only [List.mem_cons, List.not_mem_nil, or_false] at h
 rcases h with rfl | rfl | rfl | rfl | rfl | rfl | rfl | rfl | rfl | rfl
 all_goals
  rcases r with _ | ⟨x, _ | ⟨y, _ | ⟨z, _ | ⟨u, r⟩⟩⟩⟩
  all_goals simp +decide [qc0g, formOf, nd, qc3o, qa8c]
 all_goals first
  | (cases isStep x <;> rfl)
  | (cases qa2z x <;> rfl)
  | (exact fun h => absurd h (by omega))
  | omega
theorem nd_head {d : PyData} (h : headD d ∉ qa3d) : nd d = none := by
 unfold nd
 split
 ·rename_i w x
  have h : w ∉ qa3d := h
  simp only [qa3d, List.mem_cons, List.not_mem_nil, or_false, not_or] at h
  simp [h]
 ·rename_i w x y
  have h : w ∉ qa3d := h
  simp only [qa3d, List.mem_cons, List.not_mem_nil, or_false, not_or] at h
  simp [h]
 ·rename_i w x y z
  have h : w ∉ qa3d := h
  simp only [qa3d, List.mem_cons, List.not_mem_nil, or_false, not_or] at h
  simp [h]
 ·rfl
theorem qe6w {d : PyData} (h : headD d ∈ qa3d) : ∃ w r, d = .tuple (.str w :: r) /\ headD d = w := by
 unfold headD at h ⊢
 split at h
 ·exact ⟨_, _, rfl, rfl⟩
 ·exact absurd h (by decide)
noncomputable def qd1i : DSp := fun ls Q => ∃ d : PyData, ls = [.d d] /\ Q (.d (.str (headD d))) [none]
noncomputable def qc4q : DSp := fun ls Q => ∃ (d : PyData) (z : Str), ls = [.d d, .d (.str z)] /\ Fn 100 d /\ Q (.d (.bool (qc3o d z))) [none, none]
noncomputable def qd1j : DSp := fun ls Q => ∃ (xs : List PyData) (z : Str) (n : Nat), ls = [.d (.tuple xs), .d (.tuple [.str z, .int (n : Int)])] /\ qa1z 100 xs /\ Q (.d (.bool (qc0g xs z n))) [none, none]
noncomputable def qc1q : DSp := fun ls Q => ∃ d : PyData, ls = [.d d] /\ Fn 100 d /\ Q (.d (.bool (nd d).isSome)) [none]
section
variable {P : Program} {w : World} {K : W.Frag} {mg : Str -> Option Value} {base : Heap} {n : Nat}
noncomputable abbrev qa5r : Stmt := top 14
theorem qe1z : FnScope ["thing"] ["thing"] (qa0h qa5r) := ⟨rfl, rfl, rfl, by decide +kernel, rfl, by decide +kernel, by decide +kernel⟩
theorem ok_head {f : Addr} {fd : FuncData} (F : Fun K "head_of" "head_of" qa5r f fd) (B : Bl mg) : FnOk P w K mg base CX0 (n + 1) f fd ["thing"] (spD K qd1i) := by
 refine F.dok qe1z (fun cdv A outer s H E hr ls Qd h => ?_) (fun ls Qd ⟨_, e, _⟩ => by rw [e]; rfl)
 obtain ⟨d, rfl, q⟩ := h
 refine ⟨rfl, ?_⟩
 refine ⟨_, (qa0f (qa1f (DW.toT (qa3u (qa3b (qa2b (qa4r rfl B.isinstance_ rfl B.tuple_ qa6j rfl (dv 0)))) (qa4q (qa0o (qa1e hr.units) qa1d (qa1l qa0w qa1w rfl B.len_ qa1s (qa0a (dv 0) qa0b)) qa0c (qa0m _)))))
  (qa0i (qa0k qa0d))
  qa0p)
  (qa0i (qa0k (de_if (qa2b (qa4r rfl B.isinstance_ rfl B.str_ qb1r rfl (qa0r qa0n qa0s (dv 0) qa0c (fun _ _ => rfl)))) (qa0r qa0n qa0s (dv 0) qa0c (fun _ _ => rfl)) qa0d)))), ?_⟩
 walk_at "dd"
 cases ht : isD "tuple" d with
 | false =>
  walk_at "dd"
  have e : headD d = "" := by
   unfold headD
   split
   ·cases ht
   ·rfl
  rw [e] at q
  exact q
 | true =>
  obtain ⟨xs, rfl⟩ := qa7q.mp ht
  walk_at "dd"
  cases xs with
  | nil =>
   walk_at "dk"
   exact q
  | cons x r =>
   rw [decide_eq_false (by simp; omega)]
   walk_at "dd"
   cases x with
   | str z =>
    rw [show isD "str" (.str z) = true from rfl]
    walk_at "dd"
    exact q
   | _ =>
    rw [show isD "str" _ = false from rfl]
    walk_at "dd"
    exact q
noncomputable abbrev qa4u : Stmt := top 16
theorem qd4r : FnScope ["thing", "wanted"] ["thing", "wanted"] (qa0h qa4u) := ⟨rfl, rfl, rfl, by decide +kernel, rfl, by decide +kernel, by decide +kernel⟩
theorem qe6x {f f1 f2 f3 : Addr} {fd fd1 fd2 fd3 : FuncData} (F : Fun K "is_taken" "is_taken" qa4u f fd) (B : Bl mg) (d_is_name : Def K mg "is_name" qa4t ["thing"] f1 fd1) (g_is_name : FnOk P w K mg base CX0 n f1 fd1 ["thing"] (spD K qb0b))
  (d_is_step : Def K mg "is_step" qa5q ["thing"] f2 fd2) (g_is_step : FnOk P w K mg base CX0 n f2 fd2 ["thing"] (spD K qb4q)) (d_is_hands : Def K mg "is_hands" qa4b ["thing"] f3 fd3) (g_is_hands : FnOk P w K mg base CX0 n f3 fd3 ["thing"] (spD K qa7p)) : FnOk P w K mg base CX0 (n + 1) f fd ["thing", "wanted"] (spD K qc4q) := by
 refine F.dok qd4r (fun cdv A outer s H E hr ls Qd h => ?_) (fun ls Qd ⟨_, _, e, _⟩ => by rw [e]; rfl)
 obtain ⟨d, z, rfl, hf, q⟩ := h
 refine ⟨rfl, ?_⟩
 refine ⟨_, (qa0f (qa1f (qa0o (qa1e hr.units) qa1d (dv 1) qa0d (qa0m _))
  (qa0i (qa0k (qa0g [false] d_is_name g_is_name hr rfl (qa0a (dv 0) qa0b))))
  qa0p)
  (qa0f (qa1f (qa0o (qa1e hr.units) qa1d (dv 1) qa0d (qa0m _))
  (qa0i (qa0k (qa0g [false] d_is_step g_is_step hr rfl (qa0a (dv 0) qa0b))))
  qa0p)
  (qa0i (qa0k (qa0g [false] d_is_hands g_is_hands hr rfl (qa0a (dv 0) qa0b)))))), ?_⟩
 walk_at "dd"
 unfold qc3o at q
 refine qa0t (fun c => ?_) (fun c => ?_)
 ·walk_at "dd"
  refine ⟨d, rfl, hf.str (by omega), ?_⟩
  rw [if_pos c] at q
  exact q
 ·walk_at "dd"
  rw [if_neg c] at q
  refine qa0t (fun c2 => ?_) (fun c2 => ?_)
  ·walk_at "dd"
   refine ⟨d, rfl, hf, ?_⟩
   rw [if_pos c2] at q
   exact q
  ·walk_at "dd"
   refine ⟨d, rfl, hf, ?_⟩
   rw [if_neg c2] at q
   exact q
noncomputable abbrev qa4v : Stmt := top 15
theorem qd4s : FnScope ["thing", "form"] ["thing", "form"] (qa0h qa4v) := ⟨rfl, rfl, rfl, by decide +kernel, rfl, by decide +kernel, by decide +kernel⟩
theorem ok_form {f f1 : Addr} {fd fd1 : FuncData} (F : Fun K "has_form" "has_form" qa4v f fd) (B : Bl mg) (d_is_taken : Def K mg "is_taken" qa4u ["thing", "wanted"] f1 fd1) (g_is_taken : FnOk P w K mg base CX0 n f1 fd1 ["thing", "wanted"] (spD K qc4q)) : FnOk P w K mg base CX0 (n + 1) f fd ["thing", "form"] (spD K qd1j) := by
 refine F.dok qd4s (fun cdv A outer s H E hr ls Qd h => ?_) (fun ls Qd ⟨_, _, _, e, _⟩ => by rw [e]; rfl)
 obtain ⟨xs, z, m, rfl, hf, q⟩ := h
 refine ⟨rfl, ?_⟩
 refine ⟨_, (qa0f (qa1f (qa0o (qa1e hr.units) qa1d (qa0r qa0n qa0s (dv 1) qa0c (fun _ _ => rfl)) qa0d (qa0m _))
  (qa0i (qa0k (qa2l (qa1e hr.units) qa1d (qa1l qa0w qa1w rfl B.len_ qa1s (qa0a (dv 0) qa0b)) (qa0y qa0u qa1n qa0c (qa0r qa0n qa0s (dv 1) qa0c (fun _ _ => rfl))) (qa0m _))))
  qa0p)
  (qa0i (qa0k (qa4h (qa2l (qa1e hr.units) qa1d (qa1l qa0w qa1w rfl B.len_ qa1s (qa0a (dv 0) qa0b)) (qa0y qa0u qa1n qa0c (qa0r qa0n qa0s (dv 1) qa0c (fun _ _ => rfl))) (qa0m _)) (qa5m (qa0g [false, false] d_is_taken g_is_taken hr rfl (qa0a (qa0r qa0n qa0s (dv 0) qa0c (fun _ _ => rfl)) (qa0a (qa0r qa0n qa0s (dv 1) qa0c (fun _ _ => rfl)) qa0b)))))))), ?_⟩
 walk_at "dd"
 unfold qc0g at q
 refine qa0t (fun c => ?_) (fun c => ?_)
 ·walk_at "dd"
  rw [if_pos c] at q
  exact q
 ·walk_at "dd"
  rw [if_neg c] at q
  by_cases c2 : (xs.length : Int) = 2 + (m : Int)
  ·rw [decide_eq_true c2] at q ⊢
   obtain ⟨a, b, r, rfl⟩ : ∃ a b r, xs = a :: b :: r := by
    match xs, c2 with
    | a :: b :: r, _ => exact ⟨a, b, r, rfl⟩
    | [], h => simp at h; omega
    | [_], h => simp at h; omega
   walk_at "dd"
   refine ⟨b, z, rfl, hf.2.1, ?_⟩
   walk_at "dd"
   rw [Bool.true_and] at q
   exact q
  ·rw [decide_eq_false c2] at q ⊢
   walk_at "dd"
   exact q
noncomputable abbrev qa4d : Stmt := top 13
theorem qb8s : FnScope ["thing", "head"] ["thing"] (qa0h qa4d) := ⟨rfl, rfl, rfl, by decide +kernel, rfl, by decide +kernel, by decide +kernel⟩
theorem qe4q {f f1 f2 : Addr} {fd fd1 fd2 : FuncData} (F : Fun K "is_formed" "is_formed" qa4d f fd) (B : Bl mg) (t_FORMS : Tab K w mg "FORMS" qc3n) (ti_FORMS : TabI K w mg "FORMS" qa3d) (d_head_of : Def K mg "head_of" qa5r ["thing"] f1 fd1) (g_head_of : FnOk P w K mg base CX0 n f1 fd1 ["thing"] (spD K qd1i))
  (d_has_form : Def K mg "has_form" qa4v ["thing", "form"] f2 fd2) (g_has_form : FnOk P w K mg base CX0 n f2 fd2 ["thing", "form"] (spD K qd1j)) : FnOk P w K mg base CX0 (n + 1) f fd ["thing"] (spD K qc1q) := by
 refine F.dok qb8s (fun cdv A outer s H E hr ls Qd h => ?_) (fun ls Qd ⟨_, e, _⟩ => by rw [e]; rfl)
 obtain ⟨d, rfl, hf, q⟩ := h
 refine ⟨rfl, ?_⟩
 refine ⟨_, (qa0f (qa1g (i := 1) qb8s.nd rfl (Or.inl rfl) (qa0g [false] d_head_of g_head_of hr rfl (qa0a (dv 0) qa0b)))
  (qa0i (qa0k (qa4h (de_inK ti_FORMS rfl (dv 1)) (qa5m (qa0g [false, false] d_has_form g_has_form hr rfl (qa0a (dv 0) (qa0a (de_tab t_FORMS rfl (dv 1) (fun _ _ => rfl)) qa0b)))))))), ?_⟩
 walk_at "dd"
 refine ⟨d, rfl, ?_⟩
 walk_at "dd"
 refine ⟨_, rfl, ?_⟩
 by_cases c : headD d ∈ qa3d
 ·rw [List.contains_iff_mem.mpr c]
  obtain ⟨w, r, rfl, e⟩ := qe6w c
  rw [e] at c ⊢
  walk_at "dd"
  rw [qe0j c]
  walk_at "dd"
  refine ⟨.str w :: r, _, _, rfl, hf.2, ?_⟩
  walk_at "dd"
  rw [nd_form c]
  exact q
 ·rw [show qa3d.contains (headD d) = false from Bool.eq_false_iff.mpr fun h => c (List.contains_iff_mem.mp h)]
  walk_at "dd"
  rw [nd_head c] at q
  exact q
end
noncomputable def Nd.word : Nd -> Str
 | .leaf b _ => if b then "wish" else "fact"
 | .no _ => "not"
 | .two w _ _ => w
 | .mod w _ _ => w
 | .bind w _ _ => w
 | .sho _ _ _ => "show"
noncomputable def Nd.arg : Nd -> PyData
 | .leaf _ m => .str m
 | .no p => p
 | .two _ p _ => p
 | .mod _ s _ => s
 | .bind _ m _ => .str m
 | .sho h _ _ => h
noncomputable def Nd.more : Nd -> List PyData
 | .leaf _ _ => []
 | .no _ => []
 | .two _ _ q => [q]
 | .mod _ _ p => [p]
 | .bind _ _ p => [p]
 | .sho _ p q => [p, q]
noncomputable def Nd.kids : Nd -> List PyData
 | .leaf _ _ => []
 | .no p => [p]
 | .two _ p q => [p, q]
 | .mod _ _ p => [p]
 | .bind _ _ p => [p]
 | .sho _ p q => [p, q]
noncomputable def Nd.enc (k : Nd) : PyData := .tuple (.str k.word :: k.arg :: k.more)
noncomputable def Nd.Wf : Nd -> Prop
 | .leaf _ _ => True
 | .no _ => True
 | .two w _ _ => w = "and" ∨ w = "or"
 | .mod w _ _ => w = "some" ∨ w = "every"
 | .bind w _ _ => w = "least" ∨ w = "most"
 | .sho _ _ _ => True
theorem qb2a {d : PyData} {m : Str} (h : qa4l d = some m) : d = .str m /\ qa1i m = true := by
 cases d with
 | str x =>
  have h : (if qa1i x = true then some x else none) = some m := h
  split at h
  ·cases h; exact ⟨rfl, by assumption⟩
  ·cases h
 | _ => cases h
theorem nd_enc {d : PyData} {k : Nd} (h : nd d = some k) : d = k.enc /\ k.Wf := by
 unfold nd at h
 split at h
 ·rename_i w x
  split at h
  ·obtain ⟨m, hm, rfl⟩ := Option.map_eq_some_iff.mp h
   rename_i c
   subst c
   rw [(qb2a hm).1]
   exact ⟨rfl, trivial⟩
  ·split at h
   ·obtain ⟨m, hm, rfl⟩ := Option.map_eq_some_iff.mp h
    rename_i c
    subst c
    rw [(qb2a hm).1]
    exact ⟨rfl, trivial⟩
   ·split at h
    ·rename_i c
     subst c
     cases h
     exact ⟨rfl, trivial⟩
    ·cases h
 ·rename_i w x y
  split at h
  ·cases h; exact ⟨rfl, by assumption⟩
  ·split at h
   ·split at h
    ·cases h; exact ⟨rfl, by assumption⟩
    ·cases h
   ·split at h
    ·obtain ⟨m, hm, rfl⟩ := Option.map_eq_some_iff.mp h
     rw [(qb2a hm).1]
     exact ⟨rfl, by assumption⟩
    ·cases h
 ·rename_i w x y z
  split at h
  ·rename_i c
   subst c
   split at h
   ·cases h; exact ⟨rfl, trivial⟩
   ·cases h
  ·cases h
 ·cases h
theorem wf_key {k : Nd} (hw : k.Wf) : k.word ∈ qa3d /\ (formOf k.word).2 = k.kids.length := by
 cases k with
 | leaf b m => cases b <;> exact ⟨by simp [qa3d, Nd.word], rfl⟩
 | no p => exact ⟨by simp [qa3d, Nd.word], rfl⟩
 | two w p q => rcases hw with rfl | rfl <;> exact ⟨by simp [qa3d, Nd.word], rfl⟩
 | mod w p q => rcases hw with rfl | rfl <;> exact ⟨by simp [qa3d, Nd.word], rfl⟩
 | bind w p q => rcases hw with rfl | rfl <;> exact ⟨by simp [qa3d, Nd.word], rfl⟩
 | sho p q r => exact ⟨by simp [qa3d, Nd.word], rfl⟩
theorem qe6y (k : Nd) : cutD (.str k.word :: k.arg :: k.more) (some (((k.more.length + 1 + 1 : Nat) : Int) - (k.kids.length : Int))) none = k.kids := by cases k <;> rfl
noncomputable def Nd.isB : Nd -> Bool
 | .bind _ _ _ => true
 | _ => false
noncomputable def Nd.isS : Nd -> Bool
 | .sho _ _ _ => true
 | _ => false
noncomputable def Nd.isN : Nd -> Bool
 | .no _ => true
 | _ => false
theorem qc1r {k : Nd} (h : k.Wf) : (decide (Str.ofString "least" = k.word) || decide (Str.ofString "most" = k.word)) = k.isB := by
 cases k with
 | leaf b m => cases b <;> rfl
 | no p => rfl
 | two w p q => rcases h with rfl | rfl <;> rfl
 | mod w p q => rcases h with rfl | rfl <;> rfl
 | bind w p q => rcases h with rfl | rfl <;> rfl
 | sho p q r => rfl
theorem qc1s {k : Nd} (h : k.Wf) : decide (k.word = Str.ofString "show") = k.isS := by
 cases k with
 | leaf b m => cases b <;> rfl
 | no p => rfl
 | two w p q => rcases h with rfl | rfl <;> rfl
 | mod w p q => rcases h with rfl | rfl <;> rfl
 | bind w p q => rcases h with rfl | rfl <;> rfl
 | sho p q r => rfl
theorem qb2b {k : Nd} (h : k.Wf) : decide (k.word = Str.ofString "not") = k.isN := by
 cases k with
 | leaf b m => cases b <;> rfl
 | no p => rfl
 | two w p q => rcases h with rfl | rfl <;> rfl
 | mod w p q => rcases h with rfl | rfl <;> rfl
 | bind w p q => rcases h with rfl | rfl <;> rfl
 | sho p q r => rfl
noncomputable def qa1v : List Nd -> List Str
 | [] => []
 | .bind _ m _ :: r => m :: qa1v r
 | _ :: r => qa1v r
theorem qa2i : ∀ a b : List Nd, qa1v (a ++ b) = qa1v a ++ qa1v b
 | [], _ => rfl
 | .bind _ m _ :: r, b => by rw [List.cons_append, qa1v, qa1v, qa2i r b]; rfl
 | .leaf _ _ :: r, b => qa2i r b
 | .no _ :: r, b => qa2i r b
 | .two _ _ _ :: r, b => qa2i r b
 | .mod _ _ _ :: r, b => qa2i r b
 | .sho _ _ _ :: r, b => qa2i r b
noncomputable def mw (m : Str) : Nat -> List Nd -> Bool
 | _, [] => false
 | _, .sho _ _ _ :: _ => false
 | c, .bind _ x _ :: r => if x = m then decide (c % 2 = 0) else mw m c r
 | c, .no _ :: r => mw m (c + 1) r
 | c, .leaf _ _ :: r => mw m c r
 | c, .two _ _ _ :: r => mw m c r
 | c, .mod _ _ _ :: r => mw m c r
noncomputable def shows (As : List Nd) : Nat := (As.filter Nd.isS).length
noncomputable def may (k : Nd) (As : List Nd) : Bool := match k with
 | .leaf true m => mw m 0 As.reverse
 | .bind _ m _ => decide ((qa1v As).length < 4) && !decide (m ∈ qa1v As)
 | .sho _ _ _ => decide (shows As < 3)
 | _ => true
noncomputable abbrev encA (As : List Nd) : PyData := .tuple (As.map Nd.enc)
noncomputable def AllW (As : List Nd) : Prop := ∀ k ∈ As, k.Wf
noncomputable def qd1k : DSp := fun ls Q => ∃ k : Nd, ls = [.d k.enc] /\ k.Wf /\ Q (.d (.tuple k.kids)) [none]
noncomputable def spIsB : DSp := fun ls Q => ∃ k : Nd, ls = [.d k.enc] /\ k.Wf /\ Q (.d (.bool k.isB)) [none]
noncomputable def qc0h : DSp := fun ls Q => ∃ As : List Nd, ls = [.d (encA As)] /\ AllW As /\ As.length <= 100 /\ Q (.new ((qa1v As).map .str)) [none]
noncomputable def qd1l : DSp := fun ls Q => ∃ (m : Str) (As : List Nd), ls = [.d (.str m), .d (encA As)] /\ AllW As /\ As.length <= 100 /\ Q (.d (.bool (mw m 0 As.reverse))) [none, none]
section
variable {P : Program} {w : World} {K : W.Frag} {mg : Str -> Option Value} {base : Heap} {n : Nat}
noncomputable abbrev qa4w : Stmt := top 17
theorem qd4t : FnScope ["sentence"] ["sentence"] (qa0h qa4w) := ⟨rfl, rfl, rfl, by decide +kernel, rfl, by decide +kernel, by decide +kernel⟩
theorem ok_kids {f : Addr} {fd : FuncData} (F : Fun K "parts_of" "parts_of" qa4w f fd) (B : Bl mg) (t_FORMS : Tab K w mg "FORMS" qc3n) : FnOk P w K mg base CX0 (n + 1) f fd ["sentence"] (spD K qd1k) := by
 refine F.dok qd4t (fun cdv A outer s H E hr ls Qd h => ?_) (fun ls Qd ⟨x, e, _⟩ => by rw [e]; rfl)
 obtain ⟨k, rfl, hk, q⟩ := h
 refine ⟨rfl, ?_⟩
 refine ⟨_, (qa0i (qa0k (qa3w (qa6h.or qa4i) qa6l (dv 0) (qa4o (qa0y qa3o qa3q (qa1l qa0w qa1w rfl B.len_ qa1s (qa0a (dv 0) qa0b)) (qa0r qa0n qa0s (de_tab t_FORMS rfl (qa0r qa0n qa0s (dv 0) qa0c (fun _ _ => rfl)) (fun _ _ => rfl)) qa0c (fun _ _ => rfl)))) qa4n))), ?_⟩
 obtain ⟨h1, h2⟩ := wf_key hk
 unfold Nd.enc
 walk_at "dd"
 rw [qe0j h1]
 walk_at "dd"
 rw [h2, qe6y]
 exact q
noncomputable abbrev qa3l : Stmt := top 18
theorem qd1m : FnScope ["sentence"] ["sentence"] (qa0h qa3l) := ⟨rfl, rfl, rfl, by decide +kernel, rfl, by decide +kernel, by decide +kernel⟩
theorem qd1n {f : Addr} {fd : FuncData} (F : Fun K "is_binder" "is_binder" qa3l f fd) (B : Bl mg) : FnOk P w K mg base CX0 (n + 1) f fd ["sentence"] (spD K spIsB) := by
 refine F.dok qd1m (fun cdv A outer s H E hr ls Qd h => ?_) (fun ls Qd ⟨x, e, _⟩ => by rw [e]; rfl)
 obtain ⟨k, rfl, hk, q⟩ := h
 refine ⟨rfl, ?_⟩
 refine ⟨_, (qa0i (qa0k (qa2l qa5f qa5w (qa0r qa0n qa0s (dv 0) qa0c (fun _ _ => rfl)) (qa0j (qa0a qa0d (qa0a qa0d qa0b))) (by rfl)))), ?_⟩
 unfold Nd.enc
 walk_at "dd"
 rw [qc1r hk]
 exact q
noncomputable abbrev qa2x : Stmt := top 23
theorem qc4r : FnScope ["around"] ["around"] (qa0h qa2x) := ⟨rfl, rfl, rfl, by decide +kernel, rfl, by decide +kernel, by decide +kernel⟩
theorem qe6z {f f1 : Addr} {fd fd1 : FuncData} (F : Fun K "names_bound" "names_bound" qa2x f fd) (B : Bl mg) (d_is_binder : Def K mg "is_binder" qa3l ["sentence"] f1 fd1) (g_is_binder : FnOk P w K mg base CX0 n f1 fd1 ["sentence"] (spD K spIsB)) : FnOk P w K mg base CX0 (n + 1) f fd ["around"] (spD K qc0h) := by
 refine F.dok qc4r (fun cdv A outer s H E hr ls Qd h => ?_) (fun ls Qd ⟨_, e, _⟩ => by rw [e]; rfl)
 obtain ⟨As, rfl, hw, hl, q⟩ := h
 refine ⟨rfl, ?_⟩
 refine ⟨_, (qa0i (ds_retF (qa6v ["thing"] [] rfl (by rfl) (by decide +kernel) (qa6b (dv 0)) (fun _ _ _ => (qa1u (i := 0) (show (["thing"] : List Str).Nodup by decide +kernel) rfl (Or.inl rfl))) (fun _ _ _ => (qc0d (qa2b (qa0g [false] d_is_binder g_is_binder hr rfl (qa0a (dv 0) qa0b))))) (fun _ _ _ => (qa0r qa0n qa0s (dv 0) qa0c (fun _ _ => rfl)))))), ?_⟩
 walk_at "dd"
 refine ⟨by rw [List.length_map]; omega, ?_⟩
 refine qa9e (fun i ρ acc => ∃ v0 : Option L, ρ = [v0] /\ acc = (qa1v (As.take i)).map .str) ⟨none, rfl, rfl⟩ ?_ ?_
 ·rintro i x ρ acc N hx ⟨v0, rfl, rfl⟩ hN
  rw [List.getElem?_map] at hx
  obtain ⟨k, hk, rfl⟩ := Option.map_eq_some_iff.mp hx
  have hkw := hw k (List.mem_of_getElem? hk)
  walk_at "dd"
  refine ⟨k, rfl, hkw, ?_⟩
  walk_at "dd"
  have et : As.take (i + 1) = As.take i ++ [k] := by rw [List.take_add_one, hk]; rfl
  cases k with
  | bind w m p =>
   show if (true = true) then _ else _
   rw [if_pos rfl]
   unfold Nd.enc
   walk_at "dd"
   refine hN _ _ ⟨_, rfl, ?_⟩
   rw [et, qa2i, List.map_append]
   rfl
  | _ =>
   show if (false = true) then _ else _
   rw [if_neg Bool.false_ne_true]
   refine hN _ _ ⟨_, rfl, ?_⟩
   rw [et, qa2i, List.map_append]
   exact (List.append_nil _).symm
 ·rintro ρ acc ⟨v0, rfl, rfl⟩
  rw [List.length_map, List.take_length]
  walk_at "dd"
  exact q
noncomputable abbrev qa4x : Stmt := top 22
theorem qa9u : FnScope ["name", "around", "nots", "thing"] ["name", "around"] (qa0h qa4x) := ⟨rfl, rfl, rfl, by decide +kernel, rfl, by decide +kernel, by decide +kernel⟩
theorem ok_wish {f f1 : Addr} {fd fd1 : FuncData} (F : Fun K "may_wish" "may_wish" qa4x f fd) (B : Bl mg) (d_is_binder : Def K mg "is_binder" qa3l ["sentence"] f1 fd1) (g_is_binder : FnOk P w K mg base CX0 n f1 fd1 ["sentence"] (spD K spIsB)) : FnOk P w K mg base CX0 (n + 1) f fd ["name", "around"] (spD K qd1l) := by
 refine F.dok qa9u (fun cdv A outer s H E hr ls Qd h => ?_) (fun ls Qd ⟨_, _, e, _⟩ => by rw [e]; rfl)
 obtain ⟨m, As, rfl, hw, hl, q⟩ := h
 refine ⟨rfl, ?_⟩
 refine ⟨_, (qa0f (qa1g (i := 2) qa9u.nd rfl (Or.inl rfl) qa0c)
  (qa0f (qa7z PassesOwn.never rfl (di_rev rfl B.reversed_ (dv 1)) (qa1u (i := 3) qa9u.nd rfl (Or.inl rfl))
  (qa0f (qa1f (qa0o (qa1e hr.units) qa1d (qa0r qa0n qa0s (dv 3) qa0c (fun _ _ => rfl)) qa0d (qa0m _))
  (qa0i (qa0k qa2v))
  qa0p)
  (qa0f (qa1f (DW.toT (qa7d (qa2b (qa0g [false] d_is_binder g_is_binder hr rfl (qa0a (dv 3) qa0b))) (qa6t (qa0o (qa1e hr.units) qa1d (qa0r qa0n qa0s (dv 3) qa0c (fun _ _ => rfl)) (dv 0) (qa0m _)))))
  (qa0i (qa0k (qa2l (qa1e hr.units) qa1d (qa0y qb1n ad_mod (dv 2) qa0c) qa0c (qa0m _))))
  qa0p)
  (qa0i (qa1f (qa0o (qa1e hr.units) qa1d (qa0r qa0n qa0s (dv 3) qa0c (fun _ _ => rfl)) qa0d (qa0m _))
  (qa0i (qa1g (i := 2) qa9u.nd rfl (Or.inl rfl) (qa0y qa0u qa1n (dv 2) qa0c)))
  qa0p)))))
  (qa0i (qa0k qa2v)))), ?_⟩
 walk_at "dd"
 rw [← List.map_reverse]
 have hwr : ∀ k ∈ As.reverse, k.Wf := fun k hk => hw k (List.mem_reverse.mp hk)
 generalize As.reverse = Rs at q hwr ⊢
 refine qa5x (fun i ρ => ∃ (c : Nat) (v3 : Option L), ρ = [some (.d (.str m)), some (.d (encA As)), some (.d (.int (c : Int))), v3] /\ mw m c (Rs.drop i) = mw m 0 Rs) ⟨0, none, rfl, rfl⟩ ?_ ?_
 ·rintro i x ρ N hx ⟨c, v3, rfl, hc⟩ hN
  rw [List.getElem?_map] at hx
  obtain ⟨k, hk, rfl⟩ := Option.map_eq_some_iff.mp hx
  have hkw := hwr k (List.mem_of_getElem? hk)
  obtain ⟨hi, ek⟩ := List.getElem?_eq_some_iff.mp hk
  rw [List.drop_eq_getElem_cons hi, ek] at hc
  rw [← hc] at q
  walk_at "dd"
  rw [show (k.enc : PyData) = .tuple (.str k.word :: k.arg :: k.more) from rfl]
  walk_at "dd"
  rw [qc1s hkw]
  cases k with
  | sho p q' r =>
   rw [if_pos (show (Nd.sho p q' r).isS = true from rfl)]
   exact q
  | bind z x p =>
   rw [if_neg (show ¬ (Nd.bind z x p).isS = true from Bool.false_ne_true)]
   walk_at "dd"
   refine ⟨.bind z x p, rfl, hkw, ?_⟩
   walk_at "dd"
   rw [if_pos (show (Nd.bind z x p).isB = true from rfl), show Nd.arg (.bind z x p) = .str x from rfl]
   walk_at "dd"
   refine qa0t (fun e => ?_) (fun e => ?_)
   ·walk_at "dd"
    rw [fMod_i (by decide)]
    walk_at "dd"
    have e2 : mw m c (Nd.bind z x p :: Rs.drop (i + 1)) = decide ((c : Int) % 2 = 0) := by
     rw [show mw m c (Nd.bind z x p :: Rs.drop (i + 1)) = decide (c % 2 = 0) from if_pos e]
     exact decide_eq_decide.mpr (by omega)
    rw [e2] at q
    exact q
   ·walk_at "dd"
    rw [qb2b hkw, if_neg (show ¬ (Nd.bind z x p).isN = true from Bool.false_ne_true)]
    walk_at "dd"
    refine hN _ ⟨c, _, rfl, ?_⟩
    rw [← hc]
    exact (if_neg e).symm
  | no p =>
   rw [if_neg (show ¬ (Nd.no p).isS = true from Bool.false_ne_true)]
   walk_at "dd"
   refine ⟨.no p, rfl, hkw, ?_⟩
   walk_at "dd"
   rw [if_neg (show ¬ (Nd.no p).isB = true from Bool.false_ne_true)]
   walk_at "dd"
   rw [qb2b hkw, if_pos (show (Nd.no p).isN = true from rfl)]
   walk_at "dd"
   exact hN _ ⟨c + 1, _, rfl, hc⟩
  | leaf b x =>
   rw [if_neg (show ¬ (Nd.leaf b x).isS = true from Bool.false_ne_true)]
   walk_at "dd"
   refine ⟨.leaf b x, rfl, hkw, ?_⟩
   walk_at "dd"
   rw [if_neg (show ¬ (Nd.leaf b x).isB = true from Bool.false_ne_true)]
   walk_at "dd"
   rw [qb2b hkw, if_neg (show ¬ (Nd.leaf b x).isN = true from Bool.false_ne_true)]
   walk_at "dd"
   exact hN _ ⟨c, _, rfl, hc⟩
  | two z p r =>
   rw [if_neg (show ¬ (Nd.two z p r).isS = true from Bool.false_ne_true)]
   walk_at "dd"
   refine ⟨.two z p r, rfl, hkw, ?_⟩
   walk_at "dd"
   rw [if_neg (show ¬ (Nd.two z p r).isB = true from Bool.false_ne_true)]
   walk_at "dd"
   rw [qb2b hkw, if_neg (show ¬ (Nd.two z p r).isN = true from Bool.false_ne_true)]
   walk_at "dd"
   exact hN _ ⟨c, _, rfl, hc⟩
  | mod z p r =>
   rw [if_neg (show ¬ (Nd.mod z p r).isS = true from Bool.false_ne_true)]
   walk_at "dd"
   refine ⟨.mod z p r, rfl, hkw, ?_⟩
   walk_at "dd"
   rw [if_neg (show ¬ (Nd.mod z p r).isB = true from Bool.false_ne_true)]
   walk_at "dd"
   rw [qb2b hkw, if_neg (show ¬ (Nd.mod z p r).isN = true from Bool.false_ne_true)]
   walk_at "dd"
   exact hN _ ⟨c, _, rfl, hc⟩
 ·rintro ρ ⟨c, v3, rfl, hc⟩
  rw [List.length_map, List.drop_length] at hc
  walk_at "dd"
  rw [← hc] at q
  exact q
end
noncomputable def mayB (k : Nd) (As : List Nd) : Bool := match k with
 | .bind _ _ _ => decide ((qa1v As).length < 4)
 | .sho _ _ _ => decide (shows As < 3)
 | _ => true
noncomputable def mayT (k : Nd) (As : List Nd) : Bool := match k with
 | .leaf true m => mw m 0 As.reverse
 | .bind _ m _ => !decide (m ∈ qa1v As)
 | _ => true
theorem may_eq (k : Nd) (As : List Nd) : may k As = (mayB k As && mayT k As) := by
 cases k with
 | leaf b m => cases b <;> rfl
 | sho p q r => exact (Bool.and_true _).symm
 | _ => rfl
noncomputable def Nd.isW : Nd -> Bool
 | .leaf b _ => b
 | _ => false
theorem qe7a {k : Nd} (h : k.Wf) : decide (k.word = Str.ofString "wish") = k.isW := by
 cases k with
 | leaf b m => cases b <;> rfl
 | no p => rfl
 | two w p q => rcases h with rfl | rfl <;> rfl
 | mod w p q => rcases h with rfl | rfl <;> rfl
 | bind w p q => rcases h with rfl | rfl <;> rfl
 | sho p q r => rfl
theorem qd1o (p : Str) : ∀ t : List Str, inF (.str p) (t.map .str) = decide (p ∈ t)
 | [] => by simp [inF]
 | x :: r => by
  have ih := qd1o p r
  unfold inF at ih ⊢
  rw [List.map_cons, List.any_cons, ih]
  by_cases e : x = p
  ·subst e; simp [eqF]
  ·have e2 : (x == p) = false := by simpa using e
   have e3 : ¬ p = x := fun h => e h.symm
   simp [eqF, e2, e3]
theorem qc7b : ∀ t : List Str, (t.map PyData.str).all qa1o = true
 | [] => rfl
 | x :: r => by rw [List.map_cons, List.all_cons, qc7b r]; rfl
theorem qd1p {neg : Bool} {p : Str} {t : List Str} : fIn neg (.str p) (.list (t.map .str)) = some (.bool (if neg then !decide (p ∈ t) else decide (p ∈ t))) := by
 rw [qc3c (by rw [qc7b]; rfl), qd1o]
noncomputable def qc4s : DSp := fun ls Q => ∃ (k : Nd) (As : List Nd), ls = [.d (.str k.word), .d (encA As)] /\ k.Wf /\ AllW As /\ As.length <= 100 /\ Q (.d (.bool (mayB k As))) [none, none]
noncomputable def qd1q : DSp := fun ls Q => ∃ (k : Nd) (As : List Nd), ls = [.d (.str k.word), .d k.arg, .d (encA As)] /\ k.Wf /\ AllW As /\ As.length <= 100 /\ Q (.d (.bool (mayT k As))) [none, none, none]
noncomputable def qc4t : DSp := fun ls Q => ∃ (k : Nd) (As : List Nd), ls = [.d k.enc, .d (encA As)] /\ k.Wf /\ AllW As /\ As.length <= 100 /\ Q (.d (.bool (may k As))) [none, none]
noncomputable def addO : Option Nat -> Option Nat -> Option Nat
 | some x, some y => some (x + y)
 | _, _ => none
noncomputable def sumO : List (Option Nat) -> Option Nat
 | [] => some 0
 | a :: r => addO a (sumO r)
noncomputable def st : Nat -> List Nd -> PyData -> Option Nat
 | 0, _, _ => none
 | n + 1, As, d => match nd d with
  | none => none
  | some k => if may k As = true then (sumO (k.kids.map fun p => st n (As ++ [k]) p)).map (· + 1) else none
noncomputable def res (o : Option Nat) : Bool := match o with
 | some t => decide (t <= 60)
 | none => false
noncomputable def Dp : Nat -> PyData -> Prop
 | 0, _ => False
 | n + 1, d => ∀ xs, d = .tuple xs -> ∀ x ∈ xs, Dp n x
noncomputable def qd1r : DSp := fun ls Q => ∃ (h : Nat) (d : PyData), ls = [.d d] /\ Dp h d /\ Fn 100 d /\ Q (.d (.bool (res (st h [] d)))) [none]
section
variable {P : Program} {w : World} {K : W.Frag} {mg : Str -> Option Value} {base : Heap} {n : Nat}
noncomputable abbrev qa4e : Stmt := top 20
theorem qd1s : FnScope ["head", "around"] ["head", "around"] (qa0h qa4e) := ⟨rfl, rfl, rfl, by decide +kernel, rfl, by decide +kernel, by decide +kernel⟩
theorem qe7b {f f1 : Addr} {fd fd1 : FuncData} (F : Fun K "may_begin" "may_begin" qa4e f fd) (B : Bl mg) (m_MOST_BINDERS : ∃ t, mg "MOST_BINDERS" = some (.int 4 t)) (m_MOST_SHOWS : ∃ t, mg "MOST_SHOWS" = some (.int 3 t)) (d_names_bound : Def K mg "names_bound" qa2x ["around"] f1 fd1) (g_names_bound : FnOk P w K mg base CX0 n f1 fd1 ["around"] (spD K qc0h)) : FnOk P w K mg base CX0 (n + 1) f fd ["head", "around"] (spD K qc4s) := by
 refine F.dok qd1s (fun cdv A outer s H E hr ls Qd h => ?_) (fun ls Qd ⟨_, _, e, _⟩ => by rw [e]; rfl)
 obtain ⟨k, As, rfl, hk, hw, hl, q⟩ := h
 refine ⟨rfl, ?_⟩
 refine ⟨_, (qa0f (qa1f (qa0o qa5f qa5w (dv 0) (qa0j (qa0a qa0d (qa0a qa0d qa0b))) (by rfl))
  (qa0i (qa0k (qa2l qa6f (qa2r _) (qa1l qa0w qa1w rfl B.len_ qa1s (qa0a (qa0g [false] d_names_bound g_names_bound hr rfl (qa0a (dv 1) qa0b)) qa0b)) (qb4m rfl m_MOST_BINDERS) (qa0m _))))
  qa0p)
  (qa0f (qa1f (qa0o (qa1e hr.units) qa1d (dv 0) qa0d (qa0m _))
  (qa0i (qa0k (qa2l qa6f (qa2r _) (qa1l qa0w qa1w rfl B.len_ qa1s (qa0a (qa1m (qa6v ["thing"] [] rfl (by rfl) (by decide +kernel) (qa6b (dv 1)) (fun _ _ _ => (qa1u (i := 0) (show (["thing"] : List Str).Nodup by decide +kernel) rfl (Or.inl rfl))) (fun _ _ _ => (qc0d (qa0o (qa1e hr.units) qa1d (qa0r qa0n qa0s (dv 0) qa0c (fun _ _ => rfl)) qa0d (qa0m _)))) (fun _ _ _ => (dv 0)))) qa0b)) (qb4m rfl m_MOST_SHOWS) (qa0m _))))
  qa0p)
  (qa0i (qa0k qa2v)))), ?_⟩
 walk_at "dd"
 rw [qc1r hk]
 cases hb : k.isB with
 | true =>
  walk_at "dd"
  refine ⟨As, rfl, hw, hl, ?_⟩
  walk_at "dd"
  rw [List.length_map]
  have e : mayB k As = decide (((qa1v As).length : Int) < 4) := by
   cases k with
   | bind w m p => exact decide_eq_decide.mpr (by omega)
   | _ => cases hb
  rw [e] at q
  exact q
 | false =>
  walk_at "dd"
  rw [qc1s hk]
  cases hs : k.isS with
  | true =>
   walk_at "dd"
   refine ⟨by rw [List.length_map]; omega, ?_⟩
   refine qa9e (fun i ρ acc => ∃ v0 : Option L, ρ = [v0] /\ acc.length = shows (As.take i)) ⟨none, rfl, rfl⟩ ?_ ?_
   ·rintro i x ρ acc N hx ⟨v0, rfl, ha⟩ hN
    rw [List.getElem?_map] at hx
    obtain ⟨j, hj, rfl⟩ := Option.map_eq_some_iff.mp hx
    have hjw := hw j (List.mem_of_getElem? hj)
    have et : As.take (i + 1) = As.take i ++ [j] := by rw [List.take_add_one, hj]; rfl
    rw [show (j.enc : PyData) = .tuple (.str j.word :: j.arg :: j.more) from rfl]
    walk_at "dd"
    rw [qc1s hjw]
    cases hs2 : j.isS with
    | true =>
     walk_at "dd"
     refine hN _ _ ⟨_, rfl, ?_⟩
     rw [List.length_append, ha, et]
     unfold shows
     rw [List.filter_append, List.length_append]
     simp [hs2]
    | false =>
     walk_at "dd"
     refine hN _ _ ⟨_, rfl, ?_⟩
     rw [ha, et]
     unfold shows
     rw [List.filter_append, List.length_append]
     simp [hs2]
   ·rintro ρ acc ⟨v0, rfl, ha⟩
    rw [List.length_map, List.take_length] at ha
    walk_at "dd"
    rw [ha]
    have e : mayB k As = decide ((shows As : Int) < 3) := by
     cases k with
     | sho p q r => exact decide_eq_decide.mpr (by omega)
     | _ => cases hs
    rw [e] at q
    exact q
  | false =>
   walk_at "dd"
   have e : mayB k As = true := by
    cases k with
    | sho p q r => cases hs
    | bind w m p => cases hb
    | _ => rfl
   rw [e] at q
   exact q
noncomputable abbrev qa4y : Stmt := top 21
theorem qd4u : FnScope ["head", "taken", "around"] ["head", "taken", "around"] (qa0h qa4y) := ⟨rfl, rfl, rfl, by decide +kernel, rfl, by decide +kernel, by decide +kernel⟩
theorem ok_take {f f1 f2 : Addr} {fd fd1 fd2 : FuncData} (F : Fun K "may_take" "may_take" qa4y f fd) (B : Bl mg) (d_names_bound : Def K mg "names_bound" qa2x ["around"] f1 fd1) (g_names_bound : FnOk P w K mg base CX0 n f1 fd1 ["around"] (spD K qc0h))
  (d_may_wish : Def K mg "may_wish" qa4x ["name", "around"] f2 fd2) (g_may_wish : FnOk P w K mg base CX0 n f2 fd2 ["name", "around"] (spD K qd1l)) : FnOk P w K mg base CX0 (n + 1) f fd ["head", "taken", "around"] (spD K qd1q) := by
 refine F.dok qd4u (fun cdv A outer s H E hr ls Qd h => ?_) (fun ls Qd ⟨_, _, e, _⟩ => by rw [e]; rfl)
 obtain ⟨k, As, rfl, hk, hw, hl, q⟩ := h
 refine ⟨rfl, ?_⟩
 refine ⟨_, (qa0f (qa1f (qa0o (qa1e hr.units) qa1d (dv 0) qa0d (qa0m _))
  (qa0i (qa0k (qa0g [false, false] d_may_wish g_may_wish hr rfl (qa0a (dv 1) (qa0a (dv 2) qa0b)))))
  qa0p)
  (qa0f (qa1f (qa0o qa5f qa5w (dv 0) (qa0j (qa0a qa0d (qa0a qa0d qa0b))) (by rfl))
  (qa0i (qa0k (qa2l qa7c qa5w (dv 1) (qa0g [false] d_names_bound g_names_bound hr rfl (qa0a (dv 2) qa0b)) (by rfl))))
  qa0p)
  (qa0i (qa0k qa2v)))), ?_⟩
 walk_at "dd"
 rw [qe7a hk]
 cases hb : k.isW with
 | true =>
  obtain ⟨m, rfl⟩ : ∃ m, k = .leaf true m := by
   cases k with
   | leaf b m => cases b; cases hb; exact ⟨m, rfl⟩
   | _ => cases hb
  walk_at "dd"
  refine ⟨m, As, rfl, hw, hl, ?_⟩
  walk_at "dd"
  exact q
 | false =>
  walk_at "dd"
  rw [qc1r hk]
  cases hs : k.isB with
  | true =>
   obtain ⟨z, m, p, rfl⟩ : ∃ z m p, k = .bind z m p := by
    cases k with
    | bind z m p => exact ⟨z, m, p, rfl⟩
    | _ => cases hs
   walk_at "dd"
   refine ⟨As, rfl, hw, hl, ?_⟩
   walk_at "dd"
   rw [show Nd.arg (.bind z m p) = .str m from rfl, qd1p]
   walk_at "dd"
   exact q
  | false =>
   walk_at "dd"
   have e : mayT k As = true := by
    cases k with
    | leaf b m => cases b; rfl; cases hb
    | bind w m p => cases hs
    | _ => rfl
   rw [e] at q
   exact q
noncomputable abbrev qa4f : Stmt := top 19
theorem qd1t : FnScope ["sentence", "around"] ["sentence", "around"] (qa0h qa4f) := ⟨rfl, rfl, rfl, by decide +kernel, rfl, by decide +kernel, by decide +kernel⟩
theorem qe7c {f f1 f2 : Addr} {fd fd1 fd2 : FuncData} (F : Fun K "may_stand" "may_stand" qa4f f fd) (B : Bl mg) (d_may_begin : Def K mg "may_begin" qa4e ["head", "around"] f1 fd1) (g_may_begin : FnOk P w K mg base CX0 n f1 fd1 ["head", "around"] (spD K qc4s))
  (d_may_take : Def K mg "may_take" qa4y ["head", "taken", "around"] f2 fd2) (g_may_take : FnOk P w K mg base CX0 n f2 fd2 ["head", "taken", "around"] (spD K qd1q)) : FnOk P w K mg base CX0 (n + 1) f fd ["sentence", "around"] (spD K qc4t) := by
 refine F.dok qd1t (fun cdv A outer s H E hr ls Qd h => ?_) (fun ls Qd ⟨_, _, e, _⟩ => by rw [e]; rfl)
 obtain ⟨k, As, rfl, hk, hw, hl, q⟩ := h
 refine ⟨rfl, ?_⟩
 refine ⟨_, (qa0i (qa0k (qa4h (qa0g [false, false] d_may_begin g_may_begin hr rfl (qa0a (qa0r qa0n qa0s (dv 0) qa0c (fun _ _ => rfl)) (qa0a (dv 1) qa0b))) (qa5m (qa0g [false, false, false] d_may_take g_may_take hr rfl (qa0a (qa0r qa0n qa0s (dv 0) qa0c (fun _ _ => rfl)) (qa0a (qa0r qa0n qa0s (dv 0) qa0c (fun _ _ => rfl)) (qa0a (dv 1) qa0b)))))))), ?_⟩
 rw [may_eq] at q
 unfold Nd.enc
 walk_at "dd"
 refine ⟨k, As, rfl, hk, hw, hl, ?_⟩
 walk_at "dd"
 cases hb : mayB k As with
 | false =>
  rw [hb] at q
  walk_at "dd"
  exact q
 | true =>
  rw [hb, Bool.true_and] at q
  walk_at "dd"
  refine ⟨k, As, rfl, hk, hw, hl, ?_⟩
  walk_at "dd"
  exact q
end
noncomputable abbrev En := Nat × List Nd × PyData
noncomputable abbrev encW (e : En) : PyData := .tuple [e.2.2, encA e.2.1]
noncomputable def stE (e : En) : Option Nat := st e.1 e.2.1 e.2.2
structure EnOk (m : Nat) (e : En) : Prop where
 dp : Dp e.1 e.2.2
 fn : Fn 100 e.2.2
 aw : AllW e.2.1
 al : e.2.1.length <= m
noncomputable def wres (m : Nat) (o : Option Nat) : Bool := match o with
 | some t => decide (m + t <= 60)
 | none => false
theorem addO_z (a : Option Nat) : addO (some 0) a = a := by
 cases a with
 | none => rfl
 | some y => show some (0 + y) = some y; rw [Nat.zero_add]
theorem addO_z2 (a : Option Nat) : addO a (some 0) = a := by cases a <;> rfl
theorem addO_n (a : Option Nat) : addO a none = none := by cases a <;> rfl
theorem qe2a (a b c : Option Nat) : addO (addO a b) c = addO a (addO b c) := by
 cases a with
 | none => rfl
 | some x => cases b with
  | none => rfl
  | some y => cases c with
   | none => rfl
   | some z => show some (x + y + z) = some (x + (y + z)); rw [Nat.add_assoc]
theorem qb2c : ∀ a b : List (Option Nat), sumO (a ++ b) = addO (sumO a) (sumO b)
 | [], b => (addO_z _).symm
 | x :: r, b => by
  rw [List.cons_append]
  show addO x (sumO (r ++ b)) = addO (addO x (sumO r)) (sumO b)
  rw [qb2c r b, qe2a]
theorem qa5h (a : Option Nat) : sumO [a] = a := addO_z2 a
theorem st_pos {h : Nat} {As : List Nd} {d : PyData} {t : Nat} (e : st h As d = some t) : 1 <= t := by
 cases h with
 | zero => cases e
 | succ h =>
  unfold st at e
  split at e
  ·cases e
  ·split at e
   ·obtain ⟨x, _, rfl⟩ := Option.map_eq_some_iff.mp e
    exact Nat.le_add_left 1 x
   ·cases e
theorem qb1j {h : Nat} {As : List Nd} {d : PyData} (e : nd d = none) : st h As d = none := by
 cases h with
 | zero => rfl
 | succ h => unfold st; rw [e]
theorem st_no {h : Nat} {As : List Nd} {d : PyData} {k : Nd} (e : nd d = some k) (hm : may k As = false) : st h As d = none := by
 cases h with
 | zero => rfl
 | succ h => unfold st; rw [e]; simp [hm]
theorem qa6w {h : Nat} {As : List Nd} {d : PyData} {k : Nd} (e : nd d = some k) (hm : may k As = true) : st (h + 1) As d = (sumO (k.kids.map fun p => st h (As ++ [k]) p)).map (· + 1) := by
 conv => lhs; unfold st
 rw [e]; simp [hm]
theorem qc7c {m : Nat} {a : List (Option Nat)} : wres m (sumO (a ++ [none])) = false := by
 rw [qb2c, qa5h, addO_n]; rfl
theorem qd1u {m : Nat} {a : List (Option Nat)} {h : Nat} {As : List Nd} {d : PyData} (hm : 60 < m + 1) : wres m (sumO (a ++ [st h As d])) = false := by
 rw [qb2c, qa5h]
 cases e : st h As d with
 | none => rw [addO_n]; rfl
 | some t =>
  have := st_pos e
  cases sumO a with
  | none => rfl
  | some x => exact decide_eq_false (by omega)
theorem qe4r {m : Nat} {a b : List (Option Nat)} : wres m (sumO (a ++ [(sumO b).map (· + 1)])) = wres (m + 1) (sumO (a ++ b)) := by
 rw [qb2c, qb2c, qa5h]
 cases sumO a with
 | none => rfl
 | some x => cases sumO b with
  | none => rfl
  | some y =>
   show decide (m + (x + (y + 1)) <= 60) = decide (m + 1 + (x + y) <= 60)
   exact decide_eq_decide.mpr (by omega)
theorem qe7d {k : Nd} {p : PyData} (h : p ∈ k.kids) : p ∈ (.str k.word :: k.arg :: k.more : List PyData) := by
 cases k <;> simp [Nd.kids, Nd.arg, Nd.more] at h ⊢ <;> simp [h] <;> (rcases h with rfl | rfl <;> simp)
theorem qe7e (k : Nd) : k.kids.length <= 2 := by cases k <;> simp [Nd.kids]
section
variable {P : Program} {w : World} {K : W.Frag} {mg : Str -> Option Value} {base : Heap} {n : Nat}
noncomputable abbrev qa3i : Stmt := top 12
theorem qa4g : FnScope ["thing", "many", "waiting", "pair", "around"] ["thing"] (qa0h qa3i) := ⟨rfl, rfl, rfl, by decide +kernel, rfl, by decide +kernel, by decide +kernel⟩
theorem ok_sent {f f1 f2 f3 : Addr} {fd fd1 fd2 fd3 : FuncData} (F : Fun K "is_sentence" "is_sentence" qa3i f fd) (B : Bl mg) (m_MOST_THINGS : ∃ t, mg "MOST_THINGS" = some (.int 60 t)) (d_is_formed : Def K mg "is_formed" qa4d ["thing"] f1 fd1) (g_is_formed : FnOk P w K mg base CX0 n f1 fd1 ["thing"] (spD K qc1q))
  (d_may_stand : Def K mg "may_stand" qa4f ["sentence", "around"] f2 fd2) (g_may_stand : FnOk P w K mg base CX0 n f2 fd2 ["sentence", "around"] (spD K qc4t)) (d_parts_of : Def K mg "parts_of" qa4w ["sentence"] f3 fd3) (g_parts_of : FnOk P w K mg base CX0 n f3 fd3 ["sentence"] (spD K qd1k)) : FnOk P w K mg base CX0 (n + 1) f fd ["thing"] (spD K qd1r) := by
 refine F.dok qa4g (fun cdv A outer s H E hr ls Qd h => ?_) (fun ls Qd ⟨_, _, e, _⟩ => by rw [e]; rfl)
 obtain ⟨h, d, rfl, hd, hf, q⟩ := h
 refine ⟨rfl, ?_⟩
 refine ⟨_, (qa0f (qa1g (i := 1) qa4g.nd rfl (Or.inl rfl) qa0c)
  (qa0f (qb4o (i := 2) qa4g.nd rfl (Or.inl rfl) (qa1k (qa0a (qa0j (qa0a (dv 0) (qa0a (qa0j qa0b) qa0b))) qa0b)))
  (qa0f (qe6d PassesOwn.never (qc8x (dv 2))
  (qa0f (qa1g (i := 1) qa4g.nd rfl (Or.inl rfl) (qa0y qa0u qa1n (dv 1) qa0c))
  (qa0f (qa1f (qa0o op_gt (qa2r _) (dv 1) (qb4m rfl m_MOST_THINGS) (qa0m _))
  (qa0i (qa0k qa2v))
  qa0p)
  (qa0f (qa1g (i := 3) qa4g.nd rfl (Or.inl rfl) (de_pop 2 rfl))
  (qa0f (qa1f (DW.toT (qa3u (qa3b (qa2b (qa0g [false] d_is_formed g_is_formed hr rfl (qa0a (qa0r qa0n qa0s (dv 3) qa0c (fun _ _ => rfl)) qa0b)))) (qa4q (qa3b (qa2b (qa0g [false, false] d_may_stand g_may_stand hr rfl (qa0a (qa0r qa0n qa0s (dv 3) qa0c (fun _ _ => rfl)) (qa0a (qa0r qa0n qa0s (dv 3) qa0c (fun _ _ => rfl)) qa0b))))))))
  (qa0i (qa0k qa2v))
  qa0p)
  (qa0f (qa1g (i := 4) qa4g.nd rfl (Or.inr rfl) (qa0y qa0u qa1n (qa0r qa0n qa0s (dv 3) qa0c (fun _ _ => rfl)) (qa0j (qa0a (qa0r qa0n qa0s (dv 3) qa0c (fun _ _ => rfl)) qa0b))))
  (qa0i (qc4j (de_extL 2 rfl (qa1m (qa6v ["part"] [("around", 4)] rfl (by rfl) (by decide +kernel) (qa6b (qa0g [false] d_parts_of g_parts_of hr rfl (qa0a (qa0r qa0n qa0s (dv 3) qa0c (fun _ _ => rfl)) qa0b))) (fun _ _ _ => (qa1u (i := 0) (show (["part", "around"] : List Str).Nodup by decide +kernel) rfl (Or.inl rfl))) (fun _ _ _ => qa7o) (fun _ _ _ => (qa0j (qa0a (dv 0) (qa0a (dv 1) qa0b)))))))))))))))
  (qa0i (qa0k qa2v))))), ?_⟩
 walk_at "dd"
 refine qe3x (fun m ρ => ∃ (many : Nat) (ws : List En) (v3 v4 : Option L), ρ = [some (.d d), some (.d (.int (many : Int))), some (.own (ws.map encW)), v3, v4] /\ m + many = 60 /\ ws.length <= 1 + 2 * many /\ (∀ e ∈ ws, EnOk many e) /\ wres many (sumO (ws.map stE)) = res (st h [] d)) 60
  ⟨0, [(h, [], d)], none, none, rfl, by omega, by simp, fun e he => by rw [List.mem_singleton.mp he]; exact ⟨hd, hf, fun k hk => by simp at hk, by simp⟩, ?_⟩ ?_
 ·show wres 0 (sumO [stE (h, [], d)]) = _
  rw [qa5h]
  show wres 0 (st h [] d) = _
  cases st h [] d with
  | none => rfl
  | some t => exact decide_eq_decide.mpr (by omega)
 rintro m ρ N ⟨many, ws, v3, v4, rfl, hm, hwl, hok, hR⟩ hN
 walk_at "dd"
 rcases List.eq_nil_or_concat ws with rfl | ⟨ws0, e, rfl⟩
 ·refine iteF ?_
  walk_at "dd"
  have e : res (st h [] d) = true := by rw [← hR]; exact decide_eq_true (by omega)
  rw [e] at q
  exact q
 ·rw [List.concat_eq_append] at *
  obtain ⟨h1, As, d1⟩ := e
  have he := hok _ (List.mem_append_right _ (List.mem_singleton.mpr rfl))
  have hdp : Dp h1 d1 := he.dp
  have hfn : Fn 100 d1 := he.fn
  have haw : AllW As := he.aw
  have hal : As.length <= many := he.al
  rw [List.map_append] at hR
  have hR' : wres many (sumO (ws0.map stE ++ [st h1 As d1])) = res (st h [] d) := hR
  rw [List.length_append, List.length_singleton] at hwl
  have eb : (!(List.map encW (ws0 ++ [(h1, As, d1)])).isEmpty) = true := by simp
  rw [eb]
  refine iteT ?_
  rw [List.map_append, List.map_cons, List.map_nil]
  walk_at "dd"
  refine qa0t (fun c => ?_) (fun c => ?_)
  ·walk_at "dd"
   rw [qd1u (by omega)] at hR'
   rw [← hR'] at q
   exact q
  ·walk_at "dd"
   rw [List.getLast?_concat, List.dropLast_concat]
   walk_at "dd"
   refine ⟨d1, rfl, hfn, ?_⟩
   walk_at "dd"
   cases hk : nd d1 with
   | none =>
    rw [qb1j hk, qc7c] at hR'
    rw [← hR'] at q
    rw [Option.isSome_none]
    walk_at "dd"
    exact q
   | some k =>
    obtain ⟨e1, hkw⟩ := nd_enc hk
    rw [Option.isSome_some]
    walk_at "dd"
    refine ⟨k, As, by rw [e1], hkw, haw, by omega, ?_⟩
    walk_at "dd"
    cases hmay : may k As with
    | false =>
     rw [st_no hk hmay, qc7c] at hR'
     rw [← hR'] at q
     walk_at "dd"
     exact q
    | true =>
     walk_at "dd"
     have hsl := sizeLine_eq
     rw [qb1x (by rw [List.length_map]; show _ + 1 <= _; omega), qa1c]
     have ea : As.map Nd.enc ++ [d1] = (As ++ [k]).map Nd.enc := by rw [List.map_append, e1]; rfl
     rw [ea]
     walk_at "dd"
     refine ⟨k, by rw [e1], hkw, ?_⟩
     have hkl := qe7e k
     walk_at "dd"
     refine ⟨by omega, ?_⟩
     obtain ⟨h0, rfl⟩ : ∃ h0, h1 = h0 + 1 := by
      cases h1 with
      | zero => exact absurd hdp id
      | succ h0 => exact ⟨h0, rfl⟩
     refine L2.qa9f (fun ρ => ∃ v0 : Option L, ρ = [v0, some (.d (encA (As ++ [k])))]) (fun p => some (.tuple [p, encA (As ++ [k])])) ⟨_, rfl⟩ ?_ ?_
     ·rintro x ρ N2 hx ⟨v0, rfl⟩ hN2
      walk_at "dd"
      exact hN2 _ ⟨_, rfl⟩
     rintro ρ _
     rw [List.filterMap_eq_map']
     refine ⟨_, rfl, by rw [List.length_map, List.length_map]; omega, ?_⟩
     have em : ∀ p ∈ k.kids, Dp h0 p /\ Fn 100 p := fun p hp => by
      have h2 := qe7d hp
      rw [e1] at hdp hfn
      exact ⟨hdp _ rfl p h2, hfn.2.mem p h2⟩
     refine hN (m - 1) _ (by omega) ⟨many + 1, ws0 ++ k.kids.map (fun p => (h0, As ++ [k], p)), some (.d (encW (h0 + 1, As, d1))), some (.d (encA (As ++ [k]))), ?_, by omega, ?_, ?_, ?_⟩
     rotate_left
     ·rw [List.length_append, List.length_map]; omega
     ·intro e he
      rcases List.mem_append.mp he with he | he
      ·have := hok e (List.mem_append_left _ he)
       exact ⟨this.dp, this.fn, this.aw, Nat.le_trans this.al (by omega)⟩
      ·obtain ⟨p, hp, rfl⟩ := List.mem_map.mp he
       refine ⟨(em p hp).1, (em p hp).2, fun j hj => ?_, by rw [List.length_append]; show _ + 1 <= _; omega⟩
       rcases List.mem_append.mp hj with hj | hj
       ·exact haw j hj
       ·rw [List.mem_singleton.mp hj]; exact hkw
     ·rw [qa6w hk hmay, qe4r] at hR'
      rw [← hR', List.map_append, List.map_map]
      rfl
     ·rw [List.map_append (l₁ := ws0), List.map_map]
      rfl
end
theorem qb4r (m : Str) : ∀ (l : List Nd) (c c' : Nat), c % 2 = c' % 2 -> mw m c l = mw m c' l
 | [], _, _, _ => rfl
 | .sho _ _ _ :: _, _, _, _ => rfl
 | .bind _ x _ :: r, c, c', h => by
  show (if x = m then decide (c % 2 = 0) else mw m c r) = (if x = m then decide (c' % 2 = 0) else mw m c' r)
  rw [h, qb4r m r c c' h]
 | .no _ :: r, c, c', h => qb4r m r (c + 1) (c' + 1) (by omega)
 | .leaf _ _ :: r, c, c', h => qb4r m r c c' h
 | .two _ _ _ :: r, c, c', h => qb4r m r c c' h
 | .mod _ _ _ :: r, c, c', h => qb4r m r c c' h
noncomputable abbrev Fr := List (Str × Bool)
noncomputable def qa5i (F : Fr) : List PyData := F.map fun p => .tuple [.str p.1, .int (if p.2 then 1 else 0)]
noncomputable def qb5l (F : Fr) : Fr := F.map fun p => (p.1, !p.2)
structure Rl (As : List Nd) (F : Fr) (Ns : List Str) (sh : Nat) : Prop where
 wf : AllW As
 nm : Ns = qa1v As
 hs : sh = shows As
 fr : ∀ m b, decide ((m, b) ∈ F) = mw m (if b then 1 else 0) As.reverse
 sub : ∀ p ∈ F, p.1 ∈ Ns /\ qa1i p.1 = true
 fl : F.length <= Ns.length
 nl : Ns.length <= 4
 s3 : sh <= 3
theorem Rl.nil : Rl [] [] [] 0 := ⟨fun k hk => by simp at hk, rfl, rfl, fun m b => by simp [mw], fun p hp => by simp at hp, Nat.le_refl _, by simp, by omega⟩
theorem qb2d (As : List Nd) (k : Nd) : (As ++ [k]).reverse = k :: As.reverse := by simp
theorem AllW.snoc {As : List Nd} {k : Nd} (h : AllW As) (hk : k.Wf) : AllW (As ++ [k]) := fun j hj => by
 rcases List.mem_append.mp hj with hj | hj
 ·exact h j hj
 ·rw [List.mem_singleton.mp hj]; exact hk
theorem qa8d (As : List Nd) (k : Nd) : shows (As ++ [k]) = shows As + (if k.isS then 1 else 0) := by
 unfold shows
 rw [List.filter_append, List.length_append]
 cases h : k.isS <;> simp [h]
theorem Rl.no {As : List Nd} {F : Fr} {Ns : List Str} {sh : Nat} (R : Rl As F Ns sh) (p : PyData) : Rl (As ++ [.no p]) (qb5l F) Ns sh := by
 refine ⟨R.wf.snoc trivial, by rw [qa2i]; simpa [qa1v] using R.nm, by rw [qa8d]; exact R.hs, fun m b => ?_, fun q hq => ?_, by simpa [qb5l] using R.fl, R.nl, R.s3⟩
 ·rw [qb2d]
  show _ = mw m ((if b then 1 else 0) + 1) As.reverse
  have e : decide ((m, b) ∈ qb5l F) = decide ((m, !b) ∈ F) := by
   refine decide_eq_decide.mpr ⟨fun h => ?_, fun h => ?_⟩
   ·obtain ⟨q, hq, e⟩ := List.mem_map.mp h
    cases e
    simpa using hq
   ·exact List.mem_map.mpr ⟨_, h, by simp⟩
  rw [e, R.fr]
  cases b
  ·rfl
  ·exact qb4r m _ _ _ rfl
 ·obtain ⟨q0, hq0, rfl⟩ := List.mem_map.mp hq
  exact R.sub q0 hq0
theorem Rl.two {As : List Nd} {F : Fr} {Ns : List Str} {sh : Nat} (R : Rl As F Ns sh) {w : Str} {p q : PyData} (hw : (Nd.two w p q).Wf) : Rl (As ++ [.two w p q]) F Ns sh :=
 ⟨R.wf.snoc hw, by rw [qa2i]; simpa [qa1v] using R.nm, by rw [qa8d]; exact R.hs, fun m b => by rw [qb2d]; exact R.fr m b, R.sub, R.fl, R.nl, R.s3⟩
theorem Rl.mod {As : List Nd} {F : Fr} {Ns : List Str} {sh : Nat} (R : Rl As F Ns sh) {w : Str} {p q : PyData} (hw : (Nd.mod w p q).Wf) : Rl (As ++ [.mod w p q]) F Ns sh :=
 ⟨R.wf.snoc hw, by rw [qa2i]; simpa [qa1v] using R.nm, by rw [qa8d]; exact R.hs, fun m b => by rw [qb2d]; exact R.fr m b, R.sub, R.fl, R.nl, R.s3⟩
theorem Rl.sho {As : List Nd} {F : Fr} {Ns : List Str} {sh : Nat} (R : Rl As F Ns sh) (h p q : PyData) (h3 : sh < 3) : Rl (As ++ [.sho h p q]) [] Ns (sh + 1) :=
 ⟨R.wf.snoc trivial, by rw [qa2i]; simpa [qa1v] using R.nm, by rw [qa8d, R.hs]; rfl, fun m b => by rw [qb2d]; rfl, fun p hp => by simp at hp, Nat.zero_le _, R.nl, h3⟩
theorem Rl.bind {As : List Nd} {F : Fr} {Ns : List Str} {sh : Nat} (R : Rl As F Ns sh) {w nm : Str} {p : PyData} (hw : (Nd.bind w nm p).Wf) (h1 : nm ∉ Ns) (h2 : Ns.length < 4) (h3 : qa1i nm = true) : Rl (As ++ [.bind w nm p]) (F ++ [(nm, false)]) (Ns ++ [nm]) sh := by
 refine ⟨R.wf.snoc hw, by rw [qa2i, R.nm]; rfl, by rw [qa8d]; exact R.hs, fun m b => ?_, fun q hq => ?_, by simpa using R.fl, by simp; omega, R.s3⟩
 ·rw [qb2d]
  show _ = if nm = m then decide ((if b then 1 else 0) % 2 = 0) else mw m (if b then 1 else 0) As.reverse
  by_cases e : nm = m
  ·rw [if_pos e]
   subst e
   cases b
   ·simp
   ·have : ¬ (nm, true) ∈ F := fun h => h1 (R.sub _ h).1
    simp [this]
  ·rw [if_neg e, ← R.fr]
   refine decide_eq_decide.mpr ⟨fun h => ?_, fun h => List.mem_append_left _ h⟩
   rcases List.mem_append.mp h with h | h
   ·exact h
   ·have := List.mem_singleton.mp h
    cases this
    exact absurd rfl e
 ·rcases List.mem_append.mp hq with h | h
  ·exact ⟨List.mem_append_left _ (R.sub q h).1, (R.sub q h).2⟩
  ·rw [List.mem_singleton.mp h]; exact ⟨by simp, h3⟩
noncomputable def flipI : PyData -> Option PyData
 | .tuple [.str m, .int o] => some (.tuple [.str m, .int (1 - o)])
 | _ => none
theorem flip_fr (F : Fr) : (qa5i F).filterMap flipI = qa5i (qb5l F) := by
 induction F with
 | nil => rfl
 | cons p r ih =>
  obtain ⟨m, o⟩ := p
  have e : flipI (.tuple [.str m, .int (if o then 1 else 0)]) = some (.tuple [.str m, .int (if !o then 1 else 0)]) := by cases o <;> rfl
  show (PyData.tuple [.str m, .int (if o then 1 else 0)] :: qa5i r).filterMap flipI = _
  rw [List.filterMap_cons_some e, ih]
  rfl
theorem qc7d {m : Str} {i : Int} (h : qa1i m = true) : SeqAt.shaped (.tuple [.str m, .int i]) = true := by
 simp [SeqAt.shaped, PyData.canLay0, PyData.canLayAll0, PyData.depth, PyData.depthAll, qb5k h]
theorem any_fr {m : Str} : ∀ F : Fr, ((qa5i F).any fun e => PyData.eqv e (.tuple [.str m, .int 0])) = decide ((m, false) ∈ F)
 | [] => rfl
 | (x, b) :: r => by
  show (PyData.eqv (.tuple [.str x, .int (if b then 1 else 0)]) (.tuple [.str m, .int 0]) || (qa5i r).any fun e => PyData.eqv e (.tuple [.str m, .int 0])) = _
  rw [any_fr r]
  cases b <;> by_cases e : x = m
  all_goals
   have e2 : ¬ x = m -> (x == m) = false := fun h => by simpa using h
   have e3 : ¬ x = m -> ¬ m = x := fun h z => h z.symm
   simp [PyData.eqv, PyData.eqvAll, e]
  all_goals simp [e2 e, e3 e]
theorem u65 {a b : Nat} (h : a + 80 < b) : a + 65 < b := by omega
theorem qa9g {α : Type} {o : Option α} {x : α} {Q : α -> Prop} (e : o = some x) (h : Q x) : need o Q := ni e h
noncomputable def qb5m (m : Nat) : DSp := fun ls Q => ∃ (h c : Nat) (As : List Nd) (F : Fr) (Ns : List Str) (sh : Nat) (d : PyData), ls = [.d d, .d (.list (qa5i F)), .d (.list (Ns.map .str)), .d (.int (sh : Int)), .bor [.int (c : Int)]] /\ Dp h d /\ h <= m /\ Fn 100 d /\ Rl As F Ns sh /\
 ∀ c' : Nat, (∀ t, st h As d = some t -> c + t <= 60 -> c' = c + t) -> Q (.d (.bool (wres c (st h As d)))) [none, none, none, none, some (.bor [.int (c' : Int)])]
theorem cut1 {x : PyData} {r : List PyData} : cutD (x :: r) (some 1) none = r := by
 have := HT.qc0a (x :: r).length 1
 unfold cutD
 rw [show (some (1 : Int)) = some ((1 : Nat) : Int) from rfl, HT.qc0a, HT.qc1d]
 simp
theorem qd1v {a b w : Str} : (decide (a = w) || decide (b = w)) = decide (w = a ∨ w = b) := by
 by_cases h1 : a = w <;> by_cases h2 : b = w <;> simp [h1, h2, eq_comm]
theorem qe7f {c : Nat} {x : Option Nat} : wres c ((sumO [x]).map (· + 1)) = wres (c + 1) x := by
 rw [qa5h]
 cases x with
 | none => rfl
 | some t => exact decide_eq_decide.mpr (by show c + (t + 1) <= 60 ↔ c + 1 + t <= 60; omega)
noncomputable def Stg (c : Nat) (x y : Option Nat) : Nat -> Nat -> List Bool -> Prop
 | 0, cs, bs => cs = c + 1 /\ bs = []
 | 1, cs, bs => bs = [wres (c + 1) x] /\ ∀ t, x = some t -> c + 1 + t <= 60 -> cs = c + 1 + t
 | _, cs, bs => ∃ c1, bs = [wres (c + 1) x, wres c1 y] /\ (∀ t, x = some t -> c + 1 + t <= 60 -> c1 = c + 1 + t) /\ ∀ t, y = some t -> c1 + t <= 60 -> cs = c1 + t
theorem stg_res {c cs : Nat} {x y : Option Nat} {bs : List Bool} (h : Stg c x y 2 cs bs) : (!bs.contains false) = wres c ((sumO [x, y]).map (· + 1)) /\ ∀ t, (sumO [x, y]).map (· + 1) = some t -> c + t <= 60 -> cs = c + t := by
 obtain ⟨c1, rfl, h1, h2⟩ := h
 have e0 : sumO [x, y] = addO x y := by show addO x (sumO [y]) = _; rw [qa5h]
 rw [e0]
 cases x with
 | none => exact ⟨rfl, fun t ht => by cases ht⟩
 | some a =>
  by_cases ca : c + 1 + a <= 60
  ·have e1 := h1 a rfl ca
   cases y with
   | none =>
    refine ⟨?_, fun t ht => by cases ht⟩
    show (![decide (c + 1 + a <= 60), false].contains false) = false
    rw [decide_eq_true ca]; rfl
   | some b =>
    refine ⟨?_, fun t ht hc => ?_⟩
    ·show (![decide (c + 1 + a <= 60), decide (c1 + b <= 60)].contains false) = decide (c + (a + b + 1) <= 60)
     rw [decide_eq_true ca, e1]
     by_cases cb : c + 1 + a + b <= 60
     ·rw [decide_eq_true cb, decide_eq_true (by omega)]; rfl
     ·rw [decide_eq_false cb, decide_eq_false (by omega)]; rfl
    ·have ht : some (a + b + 1) = some t := ht
     cases ht
     rw [h2 b rfl (by omega)]; omega
  ·refine ⟨?_, fun t ht hc => ?_⟩
   ·have e1 : wres (c + 1) (some a) = false := decide_eq_false ca
    rw [e1]
    have e2 : wres c ((addO (some a) y).map (· + 1)) = false := by
     cases y with
     | none => rfl
     | some b => exact decide_eq_false (by show ¬ c + (a + b + 1) <= 60; omega)
    rw [e2]; rfl
   ·cases y with
    | none => cases ht
    | some b =>
     have ht : some (a + b + 1) = some t := ht
     cases ht
     omega
theorem qa9v {c : Prop} [Decidable c] {A : Prop} {t : TDS} {D : DEnds} {q : Rho} (J : Rho -> Prop) (h1 : c -> (∀ ρ, J ρ -> later t D ρ) -> A) (h2 : ¬ c -> J q) (hF : ∀ ρ, J ρ -> later t D ρ) : if decide c = true then A else later t D q := by
 by_cases h : c
 ·rw [if_pos (decide_eq_true h)]; exact h1 h hF
 ·rw [if_neg (by rw [decide_eq_false h]; exact Bool.false_ne_true)]; exact hF _ (h2 h)
theorem nd_not {w : Str} {r : List PyData} (h1 : ¬ (w = "fact" ∨ w = "wish")) (h2 : ¬ (w = "not" /\ r.length = 1)) (h3 : ¬ ((w = "and" ∨ w = "or") /\ r.length = 2)) (h4 : ¬ ((w = "some" ∨ w = "every") /\ r.length = 2))
  (h5 : ¬ ((w = "least" ∨ w = "most") /\ r.length = 2 /\ ∃ x, r.head? = some x /\ isName x = true)) (h6 : ¬ (w = "show" /\ r.length = 3 /\ ∃ x, r.head? = some x /\ qa2z x = true)) : nd (.tuple (.str w :: r)) = none := by
 rcases r with _ | ⟨x, _ | ⟨y, _ | ⟨z, _ | ⟨u, r⟩⟩⟩⟩
 ·rfl
 ·have a1 : ¬ w = "fact" := fun e => h1 (.inl e)
  have a2 : ¬ w = "wish" := fun e => h1 (.inr e)
  have a3 : ¬ w = "not" := fun e => h2 ⟨e, rfl⟩
  show (if w = "fact" then _ else if w = "wish" then _ else if w = "not" then _ else none) = none
  rw [if_neg a1, if_neg a2, if_neg a3]
 ·have a1 : ¬ (w = "and" ∨ w = "or") := fun e => h3 ⟨e, rfl⟩
  have a2 : ¬ (w = "some" ∨ w = "every") := fun e => h4 ⟨e, rfl⟩
  show (if w = "and" ∨ w = "or" then _ else if w = "some" ∨ w = "every" then _ else if w = "least" ∨ w = "most" then _ else none) = none
  rw [if_neg a1, if_neg a2]
  split
  ·rename_i a3
   have : isName x ≠ true := fun e => h5 ⟨a3, rfl, x, rfl, e⟩
   have e2 := qa8c (d := x)
   cases hn : qa4l x with
   | none => rfl
   | some m => rw [hn] at e2; exact absurd e2.symm this
  ·rfl
 ·show (if w = "show" then (if qa2z x = true then _ else none) else none) = none
  split
  ·rename_i a
   rw [if_neg fun e => h6 ⟨a, rfl, x, rfl, e⟩]
  ·rfl
 ·rfl
theorem qe7g {x0 : PyData} {r : List PyData} (hs : isD "str" x0 = false) : nd (.tuple (x0 :: r)) = none := by
 unfold nd
 split
 ·rename_i heq; cases heq; cases hs
 ·rename_i heq; cases heq; cases hs
 ·rename_i heq; cases heq; cases hs
 ·rfl
theorem qe7h {d : PyData} (ht : isD "tuple" d = false) : nd d = none := by
 cases d with
 | tuple xs => cases ht
 | _ => rfl
theorem qe0k {w : Str} {r : List PyData} (hw : w = "fact" ∨ w = "wish") (hl : r.length ≠ 1) : nd (.tuple (.str w :: r)) = none := by
 rcases r with _ | ⟨x, _ | ⟨y, _ | ⟨z, _ | ⟨u, r⟩⟩⟩⟩
 ·rfl
 ·exact absurd rfl hl
 ·rcases hw with rfl | rfl <;> rfl
 ·rcases hw with rfl | rfl <;> rfl
 ·rfl
theorem qc4u {h : Nat} {As : List Nd} {d : PyData} {b : Bool} {m : Str} (e : nd d = some (.leaf b m)) (hm : may (.leaf b m) As = true) : st (h + 1) As d = some 1 := by rw [qa6w e hm]; rfl
section
variable {P : Program} {w : World} {K : W.Frag} {mg : Str -> Option Value} {base : Heap} {n : Nat}
noncomputable abbrev qa3e : Stmt := top 37
theorem qa7k : FnScope ["_law_thing", "_law_free", "_law_names", "_law_shows", "_law_count", "_law_word", "_law_rest", "_law_flipped"] ["_law_thing", "_law_free", "_law_names", "_law_shows", "_law_count"] (qa0h qa3e) := ⟨rfl, rfl, rfl, by decide +kernel, rfl, by decide +kernel, by decide +kernel⟩
theorem qe4s {f f1 f2 f3 : Addr} {fd fd1 fd2 fd3 : FuncData} (F : Fun K "_law_stands" "_law_stands" qa3e f fd) (B : Bl mg) (qa5g : Def K mg "_law_named" qa3k ["_law_thing"] f1 fd1) (qa9t : FnOk P w K mg base CX0 n f1 fd1 ["_law_thing"] (spD K qb0b))
  (qa3v : Def K mg "_law_are_hands" qa2d ["_law_thing"] f2 fd2) (qa8b : FnOk P w K mg base CX0 n f2 fd2 ["_law_thing"] (spD K qa7p)) (qb0e : Def K mg "_law_is_step" qa3h ["_law_thing"] f3 fd3) (qc7l : FnOk P w K mg base CX0 n f3 fd3 ["_law_thing"] (spD K qb4q))
  (qa2s : Def K mg "_law_stands" qa3e ["_law_thing", "_law_free", "_law_names", "_law_shows", "_law_count"] f fd) {m : Nat} (qa4j : FnOk P w K mg base CX0 n f fd ["_law_thing", "_law_free", "_law_names", "_law_shows", "_law_count"] (spD K (qb5m m))) : FnOk P w K mg base CX0 (n + 1) f fd ["_law_thing", "_law_free", "_law_names", "_law_shows", "_law_count"] (spD K (qb5m (m + 1))) := by
 refine F.dok qa7k (fun cdv A outer s H E hr ls Qd h => ?_) (fun ls Qd ⟨_, _, _, _, _, _, _, e, _⟩ => by rw [e]; rfl)
 obtain ⟨h, c, As, Fs, Ns, sh, d, rfl, hd, hm, hf, R, q⟩ := h
 refine ⟨rfl, ?_⟩
 refine ⟨_, (qa0f (qe6c 4 rfl qa0c (qa0y qa0u qa1n (qa0r qa0n qa0s (dv 4) qa0c (fun _ _ => rfl)) qa0c))
  (qa0f (qa1f (DW.toT (qa3u (qa0o op_gt (qa2r _) (qa0r qa0n qa0s (dv 4) qa0c (fun _ _ => rfl)) qa0c (qa0m _)) (qa3u (qa3b (qa2b (qa4r rfl B.isinstance_ rfl B.tuple_ qa6j rfl (dv 0)))) (qa3u (qa0o (qa1e hr.units) qa1d (qa1l qa0w qa1w rfl B.len_ qa1s (qa0a (dv 0) qa0b)) qa0c (qa0m _)) (qa4q (qa3b (qa2b (qa4r rfl B.isinstance_ rfl B.str_ qb1r rfl (qa0r qa0n qa0s (dv 0) qa0c (fun _ _ => rfl))))))))))
  (qa0i (qa0k qa2v))
  qa0p)
  (qa0f (qa1g (i := 5) qa7k.nd rfl (Or.inl rfl) (qa0r qa0n qa0s (dv 0) qa0c (fun _ _ => rfl)))
  (qa0f (qa1g (i := 6) qa7k.nd rfl (Or.inl rfl) (qa3w (qa6h.or qa4i) qa6l (dv 0) (qa4o qa0c) qa4n))
  (qa0f (qa1f (DW.toT (qa3u (qa0o (qa1e hr.units) qa1d (dv 5) qa0d (qa0m _)) (qa4q (qa0o (qa1e hr.units) qa1d (dv 5) qa0d (qa0m _)))))
  (qa0i (qa0k (qa4h (qa2l (qa1e hr.units) qa1d (qa1l qa0w qa1w rfl B.len_ qa1s (qa0a (dv 6) qa0b)) qa0c (qa0m _)) (qa4h (qa0g [false] qa5g qa9t hr rfl (qa0a (qa0r qa0n qa0s (dv 6) qa0c (fun _ _ => rfl)) qa0b)) (qa5m (de_or (qa2l (qa1e hr.units) qa1d (dv 5) qa0d (qa0m _)) (qa5m (qa2l (op_inP (u65 hr.units2)) ad_inP (qa0j (qa0a (qa0r qa0n qa0s (dv 6) qa0c (fun _ _ => rfl)) (qa0a qa0c qa0b))) (dv 1) (by rfl)))))))))
  qa0p)
  (qa0f (qa1f (DW.toT (qa7d (qa0o (qa1e hr.units) qa1d (dv 5) qa0d (qa0m _)) (qa6t (qa0o (qa1e hr.units) qa1d (qa1l qa0w qa1w rfl B.len_ qa1s (qa0a (dv 6) qa0b)) qa0c (qa0m _)))))
  (qa0f (qc4l (i := 7) qa7k.nd rfl rfl ["_law_name", "_law_odd"] [] rfl (by rfl) (by decide +kernel) (qa6b (dv 1)) (fun _ _ _ => (qc9g (n := 2) rfl (qa9d (qa1u (i := 0) (show (["_law_name", "_law_odd"] : List Str).Nodup by decide +kernel) rfl (Or.inl rfl)) (qa9d (qa1u (i := 1) (show (["_law_name", "_law_odd"] : List Str).Nodup by decide +kernel) rfl (Or.inl rfl)) qc4k)))) (fun _ _ _ => qa7o) (fun _ _ _ => (qa0j (qa0a (dv 0) (qa0a (qa0y qa3o qa3q qa0c (dv 1)) qa0b)))))
  (qa0i (qa0k (qa0g [false, false, false, false, true] qa2s qa4j hr rfl (qa0a (qa0r qa0n qa0s (dv 6) qa0c (fun _ _ => rfl)) (qa0a (dv 7) (qa0a (dv 2) (qa0a (dv 3) (qa0a (dv 4) qa0b)))))))))
  qa0p)
  (qa0f (qa1f (DW.toT (qa7d (qa0o qa5f qa5w (dv 5) (qa0j (qa0a qa0d (qa0a qa0d qa0b))) (by rfl)) (qa6t (qa0o (qa1e hr.units) qa1d (qa1l qa0w qa1w rfl B.len_ qa1s (qa0a (dv 6) qa0b)) qa0c (qa0m _)))))
  (qa0i (qa0k (qa2l qa7c qa5w qa2v (qa1m (qa6v ["_law_one"] [("_law_free", 1), ("_law_names", 2), ("_law_shows", 3), ("_law_count", 4)] rfl (by rfl) (by decide +kernel) (qa6b (dv 6)) (fun _ _ _ => (qa1u (i := 0) (show (["_law_one", "_law_free", "_law_names", "_law_shows", "_law_count"] : List Str).Nodup by decide +kernel) rfl (Or.inl rfl))) (fun _ _ _ => qa7o) (fun _ _ _ => (qa0g [false, false, false, false, true] qa2s qa4j hr rfl (qa0a (dv 0) (qa0a (dv 1) (qa0a (dv 2) (qa0a (dv 3) (qa0a (dv 4) qa0b))))))))) (by rfl))))
  qa0p)
  (qa0f (qa1f (DW.toT (qa7d (qa0o qa5f qa5w (dv 5) (qa0j (qa0a qa0d (qa0a qa0d qa0b))) (by rfl)) (qa6t (qa0o (qa1e hr.units) qa1d (qa1l qa0w qa1w rfl B.len_ qa1s (qa0a (dv 6) qa0b)) qa0c (qa0m _)))))
  (qa0i (qa0k (qa4h (qa0g [false] qb0e qc7l hr rfl (qa0a (qa0r qa0n qa0s (dv 6) qa0c (fun _ _ => rfl)) qa0b)) (qa5m (qa0g [false, false, false, false, true] qa2s qa4j hr rfl (qa0a (qa0r qa0n qa0s (dv 6) qa0c (fun _ _ => rfl)) (qa0a (dv 1) (qa0a (dv 2) (qa0a (dv 3) (qa0a (dv 4) qa0b))))))))))
  qa0p)
  (qa0f (qa1f (DW.toT (qa7d (qa0o qa5f qa5w (dv 5) (qa0j (qa0a qa0d (qa0a qa0d qa0b))) (by rfl)) (qa7d (qa0o (qa1e hr.units) qa1d (qa1l qa0w qa1w rfl B.len_ qa1s (qa0a (dv 6) qa0b)) qa0c (qa0m _)) (qa6t (qa2b (qa0g [false] qa5g qa9t hr rfl (qa0a (qa0r qa0n qa0s (dv 6) qa0c (fun _ _ => rfl)) qa0b)))))))
  (qa0f (qa1f (DW.toT (qa3u (qa0o qa5f qa5w (qa0r qa0n qa0s (dv 6) qa0c (fun _ _ => rfl)) (dv 2) (by rfl)) (qa4q (qa0o (qa1e hr.units) qa1d (qa1l qa0w qa1w rfl B.len_ qa1s (qa0a (dv 2) qa0b)) qa0c (qa0m _)))))
  (qa0i (qa0k qa2v))
  qa0p)
  (qa0i (qa0k (qa0g [false, false, false, false, true] qa2s qa4j hr rfl (qa0a (qa0r qa0n qa0s (dv 6) qa0c (fun _ _ => rfl)) (qa0a (qa0y qa0u qa1n (dv 1) (qa1m (qa1k (qa0a (qa0j (qa0a (qa0r qa0n qa0s (dv 6) qa0c (fun _ _ => rfl)) (qa0a qa0c qa0b))) qa0b)))) (qa0a (qa0y qa0u qa1n (dv 2) (qa1m (qa1k (qa0a (qa0r qa0n qa0s (dv 6) qa0c (fun _ _ => rfl)) qa0b)))) (qa0a (dv 3) (qa0a (dv 4) qa0b)))))))))
  qa0p)
  (qa0f (qa1f (DW.toT (qa3u (qa0o (qc3b hr.units) qc3a (dv 5) qa0d (qa0m _)) (qa3u (qa0o (qc3b hr.units) qc3a (qa1l qa0w qa1w rfl B.len_ qa1s (qa0a (dv 6) qa0b)) qa0c (qa0m _)) (qa3u (qa0o (qa1e hr.units) qa1d (dv 3) qa0c (qa0m _)) (qa4q (qa3b (qa2b (qa0g [false] qa3v qa8b hr rfl (qa0a (qa0r qa0n qa0s (dv 6) qa0c (fun _ _ => rfl)) qa0b)))))))))
  (qa0i (qa0k qa2v))
  qa0p)
  (qa0i (qa0k (qa2l qa7c qa5w qa2v (qa1m (qa6v ["_law_one"] [("_law_names", 2), ("_law_shows", 3), ("_law_count", 4)] rfl (by rfl) (by decide +kernel) (qa6b (qa3w (qa6h.or qa4i) qa6l (dv 6) (qa4o qa0c) qa4n)) (fun _ _ _ => (qa1u (i := 0) (show (["_law_one", "_law_names", "_law_shows", "_law_count"] : List Str).Nodup by decide +kernel) rfl (Or.inl rfl))) (fun _ _ _ => qa7o) (fun _ _ _ => (qa0g [false, false, false, false, true] qa2s qa4j hr rfl (qa0a (dv 0) (qa0a (qa1m (qa1k qa0b)) (qa0a (dv 1) (qa0a (qa0y qa0u qa1n (dv 2) qa0c) (qa0a (dv 3) qa0b))))))))) (by rfl)))))))))))))), ?_⟩
 obtain ⟨h, rfl⟩ : ∃ h0, h = h0 + 1 := by
  cases h with
  | zero => exact absurd hd id
  | succ h0 => exact ⟨h0, rfl⟩
 have hhm : h <= m := by omega
 have no : nd d = none -> Qd (.d (.bool false)) [none, none, none, none, some (.bor [.int ((c : Int) + 1)])] := fun e => by
  have q1 := q (c + 1) (fun t ht => by rw [qb1j e] at ht; cases ht)
  rw [qb1j e] at q1
  exact q1
 walk_at "dd"
 refine qa9g (x := 0) rfl ?_
 walk_at "dd"
 refine qa0t (fun c60 => ?_) (fun c60 => ?_)
 ·have hb : wres c (st (h + 1) As d) = false := by
   have := qd1u (a := []) (h := h + 1) (As := As) (d := d) (m := c) (by omega)
   rw [List.nil_append, qa5h] at this
   exact this
  have q1 := q (c + 1) (fun t ht hc => by have := st_pos ht; omega)
  rw [hb] at q1
  exact q1
 cases ht : isD "tuple" d with
 | false =>
  walk_at "dd"
  exact no (qe7h ht)
 | true =>
  obtain ⟨xs, rfl⟩ := qa7q.mp ht
  walk_at "dd"
  cases xs with
  | nil =>
   walk_at "dk"
   exact no rfl
  | cons x0 r =>
   rw [decide_eq_false (by simp; omega)]
   walk_at "dd"
   cases hs : isD "str" x0 with
   | false =>
    walk_at "dd"
    exact no (qe7g hs)
   | true =>
    obtain ⟨w, rfl⟩ : ∃ w, x0 = .str w := by
     cases x0 with
     | str w => exact ⟨w, rfl⟩
     | _ => cases hs
    walk_at "dd"
    rw [cut1]
    have leafT : ∀ b nm, nd (.tuple (.str w :: r)) = some (.leaf b nm) -> may (.leaf b nm) As = true -> Qd (.d (.bool true)) [none, none, none, none, some (.bor [.int ((c : Int) + 1)])] := fun b nm e hm => by
     have q1 := q (c + 1) (fun t ht hc => by rw [qc4u e hm] at ht; cases ht; rfl)
     rw [qc4u e hm, show wres c (some 1) = true from decide_eq_true (by omega)] at q1
     exact q1
    have leafF : ∀ k, nd (.tuple (.str w :: r)) = some k -> may k As = false -> Qd (.d (.bool false)) [none, none, none, none, some (.bor [.int ((c : Int) + 1)])] := fun k e hm => by
     have q1 := q (c + 1) (fun t ht hc => by rw [st_no e hm] at ht; cases ht)
     rw [st_no e hm] at q1
     exact q1
    obtain ⟨hrl, _, hfr⟩ := hf
    refine qa0t (fun cf => ?_) (fun cf => ?_)
    ·subst cf
     refine qa0t (fun cl => ?_) (fun cl => ?_)
     ·obtain ⟨x, rfl⟩ := l1 (r := r) (by first | omega | (simp at cl; omega))
      walk_at "dd"
      refine ⟨x, rfl, hfr.1.str (by omega), ?_⟩
      walk_at "dd"
      have e2 := qa8c (d := x)
      cases hn : qa4l x with
      | none =>
       rw [hn] at e2
       rw [← e2]
       walk_at "dd"
       refine no ?_
       show (qa4l x).map (Nd.leaf false) = none
       rw [hn]; rfl
      | some nm =>
       rw [hn] at e2
       rw [← e2]
       walk_at "dk"
       refine leafT false nm ?_ rfl
       show (qa4l x).map (Nd.leaf false) = _
       rw [hn]; rfl
     ·exact no (qe0k (.inl rfl) (by omega))
    refine qa0t (fun cw => ?_) (fun cw => ?_)
    ·subst cw
     refine qa0t (fun cl => ?_) (fun cl => ?_)
     ·obtain ⟨x, rfl⟩ := l1 (r := r) (by first | omega | (simp at cl; omega))
      walk_at "dd"
      refine ⟨x, rfl, hfr.1.str (by omega), ?_⟩
      walk_at "dd"
      have e2 := qa8c (d := x)
      cases hn : qa4l x with
      | none =>
       rw [hn] at e2
       rw [← e2]
       walk_at "dd"
       refine no ?_
       show (qa4l x).map (Nd.leaf true) = none
       rw [hn]; rfl
      | some nm =>
       rw [hn] at e2
       rw [← e2]
       walk_at "dk"
       obtain ⟨ex, hnm⟩ := qb2a hn
       subst ex
       have enw : nd (.tuple [.str "wish", .str nm]) = some (.leaf true nm) := by
        show (qa4l (.str nm)).map (Nd.leaf true) = _
        rw [hn]; rfl
       refine qa9g (fInP_of (qc7d hnm) fun e he => ?_) ?_
       ·obtain ⟨p, hp, rfl⟩ := List.mem_map.mp he
        exact qc7d (R.sub p hp).2
       rw [any_fr, R.fr nm false]
       cases hm : mw nm 0 As.reverse with
       | true =>
        rw [show mw nm (if false = true then 1 else 0) As.reverse = true from hm]
        exact leafT true nm enw hm
       | false =>
        rw [show mw nm (if false = true then 1 else 0) As.reverse = false from hm]
        exact leafF _ enw hm
     ·exact no (qe0k (.inr rfl) (by omega))
    have kd : ∀ x ∈ r, Dp h x /\ Fn 100 x := fun x hx => ⟨hd _ rfl x (List.mem_cons_of_mem _ hx), hfr.mem x hx⟩
    have hfl := R.fl
    have hnl := R.nl
    have hsl := sizeLine_eq
    have lF : (qa5i Fs).length = Fs.length := by simp [qa5i]
    have oneK : ∀ k p, nd (.tuple (.str w :: r)) = some k -> may k As = true -> k.kids = [p] -> ∀ c2 : Nat, (∀ t, st h (As ++ [k]) p = some t -> c + 1 + t <= 60 -> c2 = c + 1 + t) -> Qd (.d (.bool (wres (c + 1) (st h (As ++ [k]) p)))) [none, none, none, none, some (.bor [.int (c2 : Int)])] := fun k p e hm hk c2 hc => by
     have es : st (h + 1) As (.tuple (.str w :: r)) = (sumO [st h (As ++ [k]) p]).map (· + 1) := by rw [qa6w e hm, hk]; rfl
     have q1 := q c2 (fun t ht hle => by
      rw [es, qa5h] at ht
      obtain ⟨t0, h0, e0⟩ := Option.map_eq_some_iff.mp ht
      have e0 : t0 + 1 = t := e0
      have := hc t0 h0 (by omega)
      omega)
     rw [es, qe7f] at q1
     exact q1
    have twoK : ∀ k p p2, nd (.tuple (.str w :: r)) = some k -> may k As = true -> k.kids = [p, p2] -> ∀ (c2 : Nat) (bs : List Bool), Stg c (st h (As ++ [k]) p) (st h (As ++ [k]) p2) 2 c2 bs -> Qd (.d (.bool (!bs.contains false))) [none, none, none, none, some (.bor [.int (c2 : Int)])] := fun k p p2 e hm hk c2 bs hS => by
     have es : st (h + 1) As (.tuple (.str w :: r)) = (sumO [st h (As ++ [k]) p, st h (As ++ [k]) p2]).map (· + 1) := by rw [qa6w e hm, hk]; rfl
     obtain ⟨e1, e2⟩ := stg_res hS
     have q1 := q c2 (fun t ht hle => e2 t (by rw [← es]; exact ht) hle)
     rw [es, ← e1] at q1
     exact q1
    walk_at "dd"
    refine qa9v (fun ρ => ρ = [some (L.d (.tuple (.str w :: r))), some (L.d (.list (qa5i Fs))), some (L.d (.list (Ns.map .str))), some (L.d (.int (sh : Int))), some (L.bor [.int ((c : Int) + 1)]), some (L.d (.str w)), some (L.d (.tuple r)), none] /\ ¬ (w = "not" /\ r.length = 1)) (fun cn lat => ?_) (fun cn => ⟨rfl, fun e => cn e.1⟩) ?_
    ·refine qa0t (fun cl => ?_) (fun cl => lat _ ⟨rfl, fun e => cl (by omega)⟩)
     obtain ⟨x, rfl⟩ := l1 (r := r) (by first | omega | (simp at cl; omega))
     subst cn
     refine ⟨by rw [lF]; omega, L2.qa9f (fun ρ => ∃ a b, ρ = [a, b]) flipI ⟨none, none, rfl⟩ (fun y ρ N hy hρ hN => ?_) fun ρ _ => ?_⟩
     ·obtain ⟨a, b, rfl⟩ := hρ
      obtain ⟨⟨z, o⟩, _, rfl⟩ := List.mem_map.mp hy
      walk_at "dd"
      exact hN _ ⟨_, _, rfl⟩
     rw [flip_fr]
     walk_at "dd"
     refine ⟨h, c + 1, As ++ [.no x], qb5l Fs, Ns, sh, x, rfl, (kd x (by simp)).1, hhm, (kd x (by simp)).2, R.no x, fun c2 hc => ?_⟩
     walk_at "dd"
     exact oneK (.no x) x rfl rfl rfl c2 hc
    rintro ρ ⟨rfl, hB⟩
    walk_at "dd"
    rw [qd1v]
    refine qa9v (fun ρ => ρ = [some (L.d (.tuple (.str w :: r))), some (L.d (.list (qa5i Fs))), some (L.d (.list (Ns.map .str))), some (L.d (.int (sh : Int))), some (L.bor [.int ((c : Int) + 1)]), some (L.d (.str w)), some (L.d (.tuple r)), none] /\ ¬ ((w = "and" ∨ w = "or") /\ r.length = 2)) (fun cn lat => ?_) (fun cn => ⟨rfl, fun e => cn e.1⟩) ?_
    ·refine qa0t (fun cl => ?_) (fun cl => lat _ ⟨rfl, fun e => cl (by omega)⟩)
     obtain ⟨x, y, rfl⟩ := l2 (r := r) (by first | omega | (simp at cl; omega))
     have enk : nd (.tuple [.str w, x, y]) = some (.two w x y) := if_pos cn
     walk_at "dd"
     refine qa9e (fun i ρ acc => ∃ (v0 : Option L) (cs : Nat) (bs : List Bool), ρ = [v0, some (.d (.list (qa5i Fs))), some (.d (.list (Ns.map .str))), some (.d (.int (sh : Int))), some (.bor [.int (cs : Int)])] /\ acc = bs.map .bool /\ Stg c (st h (As ++ [.two w x y]) x) (st h (As ++ [.two w x y]) y) i cs bs) ⟨none, c + 1, [], rfl, rfl, rfl, rfl⟩ ?_ ?_
     ·rintro i u ρ acc N hu ⟨v0, cs, bs, rfl, rfl, hS⟩ hN
      match i, hu, hS with
      | 0, hu, ⟨e1, e2⟩ =>
       cases hu
       subst e1 e2
       walk_at "dd"
       refine ⟨h, c + 1, As ++ [.two w x y], Fs, Ns, sh, x, rfl, (kd x (by simp)).1, hhm, (kd x (by simp)).2, R.two cn, fun c2 hc => ?_⟩
       walk_at "dd"
       exact hN _ _ ⟨_, c2, [wres (c + 1) (st h (As ++ [.two w x y]) x)], rfl, rfl, rfl, hc⟩
      | 1, hu, ⟨e1, hc1⟩ =>
       cases hu
       subst e1
       walk_at "dd"
       refine ⟨h, cs, As ++ [.two w x y], Fs, Ns, sh, y, rfl, (kd y (by simp)).1, hhm, (kd y (by simp)).2, R.two cn, fun c2 hc => ?_⟩
       walk_at "dd"
       exact hN _ _ ⟨_, c2, [wres (c + 1) (st h (As ++ [.two w x y]) x), wres cs (st h (As ++ [.two w x y]) y)], rfl, rfl, cs, rfl, hc1, hc⟩
      | i + 2, hu, _ => simp at hu
     ·rintro ρ acc ⟨v0, cs, bs, rfl, rfl, hS⟩
      rw [qb8q, qa1c]
      walk_at "dd"
      exact twoK (.two w x y) x y enk rfl rfl cs bs hS
    rintro ρ ⟨rfl, hC⟩
    walk_at "dd"
    rw [qd1v]
    refine qa9v (fun ρ => ρ = [some (L.d (.tuple (.str w :: r))), some (L.d (.list (qa5i Fs))), some (L.d (.list (Ns.map .str))), some (L.d (.int (sh : Int))), some (L.bor [.int ((c : Int) + 1)]), some (L.d (.str w)), some (L.d (.tuple r)), none] /\ ¬ ((w = "some" ∨ w = "every") /\ r.length = 2)) (fun cn lat => ?_) (fun cn => ⟨rfl, fun e => cn e.1⟩) ?_
    ·refine qa0t (fun cl => ?_) (fun cl => lat _ ⟨rfl, fun e => cl (by omega)⟩)
     obtain ⟨x, y, rfl⟩ := l2 (r := r) (by first | omega | (simp at cl; omega))
     have nand : ¬ (w = "and" ∨ w = "or") := fun e => hC ⟨e, rfl⟩
     have enk : nd (.tuple [.str w, x, y]) = if isStep x = true then some (.mod w x y) else none := by
      show (if w = "and" ∨ w = "or" then _ else if w = "some" ∨ w = "every" then _ else _) = _
      rw [if_neg nand, if_pos cn]
     walk_at "dd"
     refine ⟨x, rfl, (kd x (by simp)).2, ?_⟩
     walk_at "dd"
     cases hst : isStep x with
     | false =>
      rw [hst] at enk
      walk_at "dd"
      exact no enk
     | true =>
      rw [hst] at enk
      walk_at "dd"
      refine ⟨h, c + 1, As ++ [.mod w x y], Fs, Ns, sh, y, rfl, (kd y (by simp)).1, hhm, (kd y (by simp)).2, R.mod cn, fun c2 hc => ?_⟩
      walk_at "dd"
      exact oneK (.mod w x y) y enk rfl rfl c2 hc
    rintro ρ ⟨rfl, hD⟩
    walk_at "dd"
    rw [qd1v]
    refine qa9v (fun ρ => ρ = [some (L.d (.tuple (.str w :: r))), some (L.d (.list (qa5i Fs))), some (L.d (.list (Ns.map .str))), some (L.d (.int (sh : Int))), some (L.bor [.int ((c : Int) + 1)]), some (L.d (.str w)), some (L.d (.tuple r)), none] /\ ¬ ((w = "least" ∨ w = "most") /\ r.length = 2 /\ ∃ x, r.head? = some x /\ isName x = true)) (fun cn lat => ?_) (fun cn => ⟨rfl, fun e => cn e.1⟩) ?_
    ·refine qa0t (fun cl => ?_) (fun cl => lat _ ⟨rfl, fun e => cl (by omega)⟩)
     obtain ⟨x, y, rfl⟩ := l2 (r := r) (by first | omega | (simp at cl; omega))
     have nand : ¬ (w = "and" ∨ w = "or") := fun e => hC ⟨e, rfl⟩
     have nsom : ¬ (w = "some" ∨ w = "every") := fun e => hD ⟨e, rfl⟩
     have enk : nd (.tuple [.str w, x, y]) = (qa4l x).map fun nm => .bind w nm y := by
      show (if w = "and" ∨ w = "or" then _ else if w = "some" ∨ w = "every" then _ else if w = "least" ∨ w = "most" then _ else none) = _
      rw [if_neg nand, if_neg nsom, if_pos cn]
     walk_at "dd"
     refine ⟨x, rfl, (kd x (by simp)).2.str (by omega), ?_⟩
     walk_at "dd"
     have e2 := qa8c (d := x)
     cases hn : qa4l x with
     | none =>
      rw [hn] at e2
      rw [← e2]
      walk_at "dd"
      exact lat _ ⟨rfl, fun ⟨_, _, z, e3, e4⟩ => by cases e3; rw [← e2] at e4; cases e4⟩
     | some nm =>
      rw [hn] at e2 enk
      rw [← e2]
      walk_at "dd"
      obtain ⟨ex, hnm⟩ := qb2a hn
      subst ex
      have emay : may (.bind w nm y) As = (decide (Ns.length < 4) && !decide (nm ∈ Ns)) := by rw [R.nm]; rfl
      rw [qd1p]
      walk_at "dd"
      refine qa0t (fun c3 => ?_) (fun c3 => ?_)
      ·refine leafF _ enk ?_
       rw [emay, decide_eq_true c3, Bool.not_true, Bool.and_false]
      refine qa0t (fun c4 => ?_) (fun c4 => ?_)
      ·rw [List.length_map] at c4
       refine leafF _ enk ?_
       rw [emay, decide_eq_false (by omega), Bool.false_and]
      rw [List.length_map] at c4
      have hl4 : Ns.length < 4 := by omega
      walk_at "dd"
      rw [qb1w (by rw [lF]; show _ + 1 <= _; omega), qa1c, qb1w (by rw [List.length_map]; show _ + 1 <= _; omega), qa1c]
      rw [show qa5i Fs ++ [PyData.tuple [PyData.str nm, PyData.int 0]] = qa5i (Fs ++ [(nm, false)]) by simp [qa5i], show Ns.map PyData.str ++ [PyData.str nm] = (Ns ++ [nm]).map PyData.str by simp]
      refine ⟨h, c + 1, As ++ [.bind w nm y], Fs ++ [(nm, false)], Ns ++ [nm], sh, y, rfl, (kd y (by simp)).1, hhm, (kd y (by simp)).2, R.bind cn c3 hl4 hnm, fun c2 hc => ?_⟩
      walk_at "dd"
      exact oneK (.bind w nm y) y enk (by rw [emay, decide_eq_true hl4, decide_eq_false c3]; rfl) rfl c2 hc
    rintro ρ ⟨rfl, hE⟩
    have nw : ∀ h6, nd (.tuple (.str w :: r)) = none := fun h6 => nd_not (fun e => e.elim cf cw) hB hC hD hE h6
    walk_at "dd"
    by_cases cs : w = Str.ofString "show"
    ·rw [decide_eq_true cs]
     walk_at "dd"
     by_cases cl : (r.length : Int) = 3
     ·rw [decide_eq_true cl]
      obtain ⟨x, y, z, rfl⟩ := l3 (r := r) (by first | omega | (simp at cl; omega))
      have enk : nd (.tuple [.str w, x, y, z]) = if qa2z x = true then some (.sho x y z) else none := if_pos cs
      walk_at "dd"
      have emay : may (.sho x y z) As = decide (sh < 3) := by rw [R.hs]; rfl
      have hs3 := R.s3
      refine qa0t (fun c3 => ?_) (fun c3 => ?_)
      ·cases hx : qa2z x with
       | true =>
        rw [hx] at enk
        exact leafF _ enk (by rw [emay]; exact decide_eq_false (by omega))
       | false =>
        rw [hx] at enk
        exact no enk
      have hl3 : sh < 3 := by omega
      refine ⟨x, rfl, (kd x (by simp)).2, ?_⟩
      walk_at "dd"
      cases hx : qa2z x with
      | false =>
       rw [hx] at enk
       walk_at "dd"
       exact no enk
      | true =>
       rw [hx] at enk
       walk_at "dd"
       rw [cut1]
       refine ⟨by show 2 <= 1000000; decide, ?_⟩
       refine qa9e (fun i ρ acc => ∃ (v0 : Option L) (cs : Nat) (bs : List Bool), ρ = [v0, some (.d (.list (Ns.map .str))), some (.d (.int (sh : Int))), some (.bor [.int (cs : Int)])] /\ acc = bs.map .bool /\ Stg c (st h (As ++ [.sho x y z]) y) (st h (As ++ [.sho x y z]) z) i cs bs) ⟨none, c + 1, [], rfl, rfl, rfl, rfl⟩ ?_ ?_
       ·rintro i u ρ acc N hu ⟨v0, cs, bs, rfl, rfl, hS⟩ hN
        match i, hu, hS with
        | 0, hu, ⟨e1, e2⟩ =>
         cases hu
         subst e1 e2
         walk_at "dd"
         refine ⟨h, c + 1, As ++ [.sho x y z], [], Ns, (sh + 1), y, rfl, (kd y (by simp)).1, hhm, (kd y (by simp)).2, R.sho x y z hl3, fun c2 hc => ?_⟩
         walk_at "dd"
         exact hN _ _ ⟨_, c2, [wres (c + 1) (st h (As ++ [.sho x y z]) y)], rfl, rfl, rfl, hc⟩
        | 1, hu, ⟨e1, hc1⟩ =>
         cases hu
         subst e1
         walk_at "dd"
         refine ⟨h, cs, As ++ [.sho x y z], [], Ns, (sh + 1), z, rfl, (kd z (by simp)).1, hhm, (kd z (by simp)).2, R.sho x y z hl3, fun c2 hc => ?_⟩
         walk_at "dd"
         exact hN _ _ ⟨_, c2, [wres (c + 1) (st h (As ++ [.sho x y z]) y), wres cs (st h (As ++ [.sho x y z]) z)], rfl, rfl, cs, rfl, hc1, hc⟩
        | i + 2, hu, _ => simp at hu
       ·rintro ρ acc ⟨v0, cs, bs, rfl, rfl, hS⟩
        rw [qb8q, qa1c]
        walk_at "dd"
        exact twoK (.sho x y z) y z enk (by rw [emay]; exact decide_eq_true hl3) rfl cs bs hS
     ·rw [decide_eq_false cl]
      walk_at "dd"
      exact no (nw fun e => cl (by omega))
    ·rw [decide_eq_false cs]
     walk_at "dd"
     exact no (nw fun e => cs e.1)
end
noncomputable def qc4v (m : Nat) : DSp := fun ls Q => ∃ (h : Nat) (d : PyData), ls = [.d d] /\ Dp h d /\ h <= m /\ Fn 100 d /\ Q (.d (.bool (res (st h [] d)))) [none]
theorem qe7i (o : Option Nat) : wres 0 o = res o := by
 cases o with
 | none => rfl
 | some t => exact decide_eq_decide.mpr (by omega)
section
variable {P : Program} {w : World} {K : W.Frag} {mg : Str -> Option Value} {base : Heap} {n : Nat}
noncomputable abbrev qa2a : Stmt := top 38
theorem qb8t : FnScope ["_law_thing"] ["_law_thing"] (qa0h qa2a) := ⟨rfl, rfl, rfl, by decide +kernel, rfl, by decide +kernel, by decide +kernel⟩
theorem qe7j {f f1 : Addr} {fd fd1 : FuncData} (F : Fun K "_law_is_sentence" "_law_is_sentence" qa2a f fd) (B : Bl mg) (qa2s : Def K mg "_law_stands" qa3e ["_law_thing", "_law_free", "_law_names", "_law_shows", "_law_count"] f1 fd1) {m : Nat} (qa4j : FnOk P w K mg base CX0 n f1 fd1 ["_law_thing", "_law_free", "_law_names", "_law_shows", "_law_count"] (spD K (qb5m m))) : FnOk P w K mg base CX0 (n + 1) f fd ["_law_thing"] (spD K (qc4v m)) := by
 refine F.dok qb8t (fun cdv A outer s H E hr ls Qd h => ?_) (fun ls Qd ⟨_, _, e, _⟩ => by rw [e]; rfl)
 obtain ⟨h, d, rfl, hd, hm, hf, q⟩ := h
 refine ⟨rfl, ?_⟩
 refine ⟨_, (qa0i (qe4m [false, false, false, false, true] qa2s qa4j hr rfl (qc0f (dv 0) (qc0f (qa1m (qa1k qa0b)) (qc0f (qa1m (qa1k qa0b)) (qc0f qa0c (db_last (qa1k (qa0a qa0c qa0b))))))))), ?_⟩
 walk_at "dd"
 refine ⟨h, 0, [], [], [], 0, d, rfl, hd, hm, hf, Rl.nil, fun c' _ => ?_⟩
 walk_at "dd"
 rw [qe7i]
 exact q
end
theorem Dp.succ : ∀ {h : Nat} {d : PyData}, Dp h d -> Dp (h + 1) d
 | 0, _, x => absurd x id
 | h + 1, d, x => fun xs e y hy => Dp.succ (x xs e y hy)
theorem qa1y {h : Nat} {d : PyData} (n : ∀ xs, d ≠ .tuple xs) : Dp (h + 1) d := fun xs e => absurd e (n xs)
theorem qa2m {h : Nat} {xs : List PyData} (a : ∀ x ∈ xs, Dp h x) : Dp (h + 1) (.tuple xs) := fun ys e y hy => by cases e; exact a y hy
theorem qb8u {h : Nat} {xs : List PyData} (a : Dp (h + 1) (.tuple xs)) : ∀ x ∈ xs, Dp h x := a xs rfl
theorem Dp.pos {h : Nat} {d : PyData} (a : Dp h d) : ∃ h0, h = h0 + 1 := by
 cases h with
 | zero => exact absurd a id
 | succ h => exact ⟨h, rfl⟩
noncomputable def qd1w : DSp := fun ls Q => ∃ (k c h : Nat) (d : PyData), ls = [.tape k, .d d] /\ k < 900000 /\ Dp h d /\ Fn c d /\ 9 <= c /\ c <= 50 /\ ∀ d' : PyData, Fn (c + 1) d' -> Dp (h + 1) d' -> Q (.d d') [some (.tape (k + 1)), none]
noncomputable def qc3p (m : Nat) : DSp := fun ls Q => ∃ (k c h : Nat) (d : PyData), ls = [.tape k, .d d] /\ k + 3 * h + 10 < 900000 /\ Dp h d /\ h <= m /\ Fn c d /\ 9 <= c /\ c <= 50 /\ ∀ (d' : PyData) (k' : Nat), k' <= k + 3 * h -> Fn (c + 1) d' -> Dp (h + 1) d' -> Q (.d d') [some (.tape k'), none]
theorem qa1z.app {c : Nat} {xs ys : List PyData} (h1 : qa1z c xs) (h2 : qa1z c ys) : qa1z c (xs ++ ys) := qa1z.of fun x hx => (List.mem_append.mp hx).elim (h1.mem x) (h2.mem x)
theorem qb5n {xs : List PyData} {i : Nat} (h : i <= xs.length) : cutD xs none (some (i : Int)) = xs.take i := by
 unfold cutD
 rw [HT.qc1d, HT.qc0a, List.drop_zero, Nat.sub_zero, Nat.min_eq_left h]
theorem qb5o {xs : List PyData} {i : Nat} (h : i <= xs.length) : cutD xs (some (i : Int)) none = xs.drop i := by
 unfold cutD
 rw [HT.qc0a, HT.qc1d, Nat.min_eq_left h]
 exact List.take_of_length_le (by rw [List.length_drop]; exact Nat.le_refl _)
section
variable {P : Program} {w : World} {K : W.Frag} {mg : Str -> Option Value} {base : Heap} {n : Nat}
noncomputable abbrev qa2p : Stmt := top 32
theorem qb2e : FnScope ["_law_tape", "_law_thing", "_law_some"] ["_law_tape", "_law_thing"] (qa0h qa2p) := ⟨rfl, rfl, rfl, by decide +kernel, rfl, by decide +kernel, by decide +kernel⟩
theorem qe7k {f f1 : Addr} {fd fd1 : FuncData} (F : Fun K "_law_bent_leaf" "_law_bent_leaf" qa2p f fd) (B : Bl mg) (qa0l : qb2w K mg f1 fd1) (qa0q : qb2v P w K mg base n f1 fd1) : FnOk P w K mg base CX0 (n + 1) f fd ["_law_tape", "_law_thing"] (spD K qd1w) := by
 refine F.dok qb2e (fun cdv A outer s H E hr ls Qd h => ?_) (fun ls Qd ⟨_, _, _, _, e, _⟩ => by rw [e]; rfl)
 obtain ⟨k, c, h, d, rfl, hk, hdp, hf, hc1, hc2, q⟩ := h
 refine ⟨rfl, ?_⟩
 have sl := sizeLine_eq
 have flt : ∀ d' : PyData, Fn (c + 1) d' -> (∀ xs, d' ≠ .tuple xs) -> Qd (.d d') [some (.tape (k + 1)), none] := fun d' h1 h2 => q d' h1 (qa1y h2)
 have kn : ∀ z : Str, z.length <= 9 -> Fn (c + 1) (.str z) := fun z hz => show z.length <= c + 1 by omega
 have ki : ∀ i : Int, -9 <= i -> i <= 9 -> Fn (c + 1) (.int i) := fun i h1 h2 => ⟨by omega, by omega⟩
 refine ⟨_, (qa0f (qa1f (DW.toT (qa7d (qa2b (qa4r rfl B.isinstance_ rfl B.int_ bt_int rfl (dv 1))) (qa6t (qa3b (qa2b (qa4r rfl B.isinstance_ rfl B.bool_ qd8h rfl (dv 1)))))))
  (qa0i (qa0k (qa0r qa0n qa0s (qa1m (qa1k (qa0a (qa0y qa0u qa1n (dv 1) qa0c) (qa0a (qa0y qa3o qa3q (dv 1) qa0c) (qa0a (qa2l (qa1e hr.units) qa1d (dv 1) qa0c (qa0m _)) (qa0a (qe3q qc8g ad_str rfl B.str_ qb1r (qa0a (dv 1) qa0b)) (qa0a qb8h (qa0a (de_neg qa0c) (qa0a (qa0j (qa0a (dv 1) qa0b)) (qa0a qa0c qa0b)))))))))) (qa0g [true, false] qa0l qa0q hr rfl (qa0a (dv 0) (qa0a qa0c qa0b))) (fun _ _ => rfl))))
  qa0p)
  (qa0f (qa1f (qa2b (qa4r rfl B.isinstance_ rfl B.str_ qb1r rfl (dv 1)))
  (qa0f (qa1g (i := 2) qb2e.nd rfl (Or.inl rfl) (qa1m (qa1k (qa0a qa0d (qa0a qa0d (qa0a (qa0y qa0u qa1n (dv 1) qa0d) (qa0a qa0d (qa0a (qa3w sl_str ad_slS (dv 1) qa4n (qa4o (de_neg qa0c))) (qa0a qa0d (qa0a qb8h (qa0a qa0c (qa0a qa0d (qa0a qa0d (qa0a qa0d (qa0a qa0d (qa0a qa0d (qa0a qa0d qa0b)))))))))))))))))
  (qa0i (qa0k (qa0r qa0n qa0s (dv 2) (qa0g [true, false] qa0l qa0q hr rfl (qa0a (dv 0) (qa0a qa0c qa0b))) (fun _ _ => rfl)))))
  qa0p)
  (qa0f (qa1f (qa2b (qa4r rfl B.isinstance_ rfl B.tuple_ qa6j rfl (dv 1)))
  (qa0i (qa0k (qa0r qa0n qa0s (qa1m (qa1k (qa0a (qa1m (qc6m qb8c qd8o rfl B.list_ qd8i (qa0a (dv 1) qa0b))) (qa0a (qa0y qa0u qa1n (dv 1) (qa0j (qa0a qa0c qa0b))) (qa0a qb8h (qa0a (qa0j (qa0a (dv 1) qa0b)) qa0b)))))) (qa0g [true, false] qa0l qa0q hr rfl (qa0a (dv 0) (qa0a qa0c qa0b))) (fun _ _ => rfl))))
  qa0p)
  (qa0i (qa0k (qa0r qa0n qa0s (qa1m (qa1k (qa0a qb8h (qa0a (qa0j qa0b) (qa0a qa0d (qa0a qa0c qa0b)))))) (qa0g [true, false] qa0l qa0q hr rfl (qa0a (dv 0) (qa0a qa0c qa0b))) (fun _ _ => rfl))))))), ?_⟩
 walk_at "dd"
 have other : isD "str" d = false -> isD "tuple" d = false -> (isD "int" d && !isD "bool" d) = false -> Qd (.d .none) [some (.tape (k + 1)), none] /\ Qd (.d (.tuple [])) [some (.tape (k + 1)), none] /\ Qd (.d (.str "a")) [some (.tape (k + 1)), none] /\ Qd (.d (.int 0)) [some (.tape (k + 1)), none] := fun _ _ _ =>
  ⟨flt _ trivial nofun, q _ ⟨by simp, trivial⟩ (qa2m fun x hx => by simp at hx), flt _ (kn _ (by decide +kernel)) nofun, flt _ (ki _ (by omega) (by omega)) nofun⟩
 cases d with
 | str x =>
  have hx : x.length <= c := hf
  rw [show isD "int" (.str x) = false from rfl]
  walk_at "dd"
  rw [show isD "str" (.str x) = true from rfl]
  walk_at "dd"
  have lz : (Str.ofString "z").length = 1 := by decide +kernel
  have la : (x ++ Str.ofString "z").length = x.length + (Str.ofString "z").length := by
   show (x.cps ++ _).size = _
   rw [Array.size_append]; rfl
  rw [show fAdd (.str x) (.str "z") = some (.str (x ++ Str.ofString "z")) from if_pos (show x.length + (Str.ofString "z").length <= sizeLine by omega), qa1c]
  walk_at "dd"
  rw [fSlS_s (by omega), qa1c]
  have ls := Txt.slice_le x none (some (-1))
  generalize Txt.slice x none (some (-1)) = y at ls
  walk_at "dd"
  refine ⟨k, 14, rfl, by decide, by omega, fun r h0 h4 => ?_⟩
  walk_at "dd"
  refine qa2h h0 (by simpa using h4) fun d' hd' _ => ?_
  walk_at "dd"
  simp only [List.mem_cons, List.not_mem_nil, or_false] at hd'
  rcases hd' with rfl | rfl | rfl | rfl | rfl | rfl | rfl | rfl | rfl | rfl | rfl | rfl | rfl | rfl
  ·exact flt _ (kn _ (by decide +kernel)) nofun
  ·exact flt _ (kn _ (by decide +kernel)) nofun
  ·exact flt _ (show (x ++ Str.ofString "z").length <= c + 1 by omega) nofun
  ·exact flt _ (kn _ (by decide +kernel)) nofun
  ·exact flt _ (show y.length <= c + 1 by omega) nofun
  ·exact flt _ (kn _ (by decide +kernel)) nofun
  ·exact flt _ trivial nofun
  ·exact flt _ (ki _ (by omega) (by omega)) nofun
  ·exact flt _ (kn _ (by decide +kernel)) nofun
  ·exact flt _ (kn _ (by decide +kernel)) nofun
  ·exact flt _ (kn _ (by decide +kernel)) nofun
  ·exact flt _ (kn _ (by decide +kernel)) nofun
  ·exact flt _ (kn _ (by decide +kernel)) nofun
  ·exact flt _ (kn _ (by decide +kernel)) nofun
 | tuple xs =>
  rw [show isD "int" (.tuple xs) = false from rfl]
  walk_at "dd"
  rw [show isD "str" (.tuple xs) = false from rfl]
  walk_at "dd"
  rw [show isD "tuple" (.tuple xs) = true from rfl]
  walk_at "dd"
  obtain ⟨h1, h2⟩ := hf
  obtain ⟨h0', rfl⟩ := hdp.pos
  rw [qb1x (by simp; omega), qa1c]
  walk_at "dd"
  refine ⟨k, 4, rfl, by decide, by omega, fun r h0 h4 => ?_⟩
  walk_at "dd"
  refine qa2h h0 (by simpa using h4) fun d' hd' _ => ?_
  walk_at "dd"
  simp only [List.mem_cons, List.not_mem_nil, or_false] at hd'
  rcases hd' with rfl | rfl | rfl | rfl
  ·exact flt _ trivial nofun
  ·refine q _ ⟨by simp; omega, qa1z.app (h2.up (by omega)) ⟨ki _ (by omega) (by omega), trivial⟩⟩ (qa2m fun x hx => ?_)
   rcases List.mem_append.mp hx with hx | hx
   ·exact (qb8u hdp x hx).succ
   ·rw [List.mem_singleton.mp hx]; exact qa1y nofun
  ·exact flt _ trivial nofun
  ·exact q _ ⟨by simp, ⟨by omega, h2.up (by omega)⟩, trivial⟩ (qa2m fun x hx => by rw [List.mem_singleton.mp hx]; exact hdp)
 | int i =>
  obtain ⟨i1, i2⟩ := hf
  rw [show isD "int" (.int i) = true from rfl]
  walk_at "dd"
  rw [show isD "bool" (.int i) = false from rfl]
  walk_at "dd"
  rw [fStrI_i (by omega) (by omega), qa1c]
  walk_at "dd"
  have ls := qe1t (i := i) (by omega) (by omega)
  refine ⟨k, 8, rfl, by decide, by omega, fun r h0 h4 => ?_⟩
  walk_at "dd"
  refine qa2h h0 (by simpa using h4) fun d' hd' _ => ?_
  walk_at "dd"
  simp only [List.mem_cons, List.not_mem_nil, or_false] at hd'
  rcases hd' with rfl | rfl | rfl | rfl | rfl | rfl | rfl | rfl
  ·exact flt _ ⟨by omega, by omega⟩ nofun
  ·exact flt _ ⟨by omega, by omega⟩ nofun
  ·exact flt _ trivial nofun
  ·exact flt _ (show (Str.ofString (toString i)).length <= c + 1 by omega) nofun
  ·exact flt _ trivial nofun
  ·exact flt _ (ki _ (by omega) (by omega)) nofun
  ·obtain ⟨h0', rfl⟩ := hdp.pos
   exact q _ ⟨by simp, ⟨by omega, by omega⟩, trivial⟩ (qa2m fun x hx => by rw [List.mem_singleton.mp hx]; exact hdp)
  ·exact flt _ (ki _ (by omega) (by omega)) nofun
 | bool b =>
  rw [show isD "int" (.bool b) = true from rfl]
  walk_at "dd"
  rw [show isD "bool" (.bool b) = true from rfl]
  walk_at "dd"
  rw [show isD "str" (.bool b) = false from rfl]
  walk_at "dd"
  rw [show isD "tuple" (.bool b) = false from rfl]
  walk_at "dd"
  refine ⟨k, 4, rfl, by decide, by omega, fun r h0 h4 => ?_⟩
  walk_at "dd"
  refine qa2h h0 (by simpa using h4) fun d' hd' _ => ?_
  walk_at "dd"
  obtain ⟨o1, o2, o3, o4⟩ := other rfl rfl rfl
  simp only [List.mem_cons, List.not_mem_nil, or_false] at hd'
  rcases hd' with rfl | rfl | rfl | rfl <;> assumption
 | none =>
  rw [show isD "int" .none = false from rfl]
  walk_at "dd"
  rw [show isD "str" .none = false from rfl]
  walk_at "dd"
  rw [show isD "tuple" .none = false from rfl]
  walk_at "dd"
  refine ⟨k, 4, rfl, by decide, by omega, fun r h0 h4 => ?_⟩
  walk_at "dd"
  refine qa2h h0 (by simpa using h4) fun d' hd' _ => ?_
  walk_at "dd"
  obtain ⟨o1, o2, o3, o4⟩ := other rfl rfl rfl
  simp only [List.mem_cons, List.not_mem_nil, or_false] at hd'
  rcases hd' with rfl | rfl | rfl | rfl <;> assumption
 | list xs =>
  rw [show isD "int" (.list xs) = false from rfl]
  walk_at "dd"
  rw [show isD "str" (.list xs) = false from rfl]
  walk_at "dd"
  rw [show isD "tuple" (.list xs) = false from rfl]
  walk_at "dd"
  refine ⟨k, 4, rfl, by decide, by omega, fun r h0 h4 => ?_⟩
  walk_at "dd"
  refine qa2h h0 (by simpa using h4) fun d' hd' _ => ?_
  walk_at "dd"
  obtain ⟨o1, o2, o3, o4⟩ := other rfl rfl rfl
  simp only [List.mem_cons, List.not_mem_nil, or_false] at hd'
  rcases hd' with rfl | rfl | rfl | rfl <;> assumption
 | dict xs =>
  rw [show isD "int" (.dict xs) = false from rfl]
  walk_at "dd"
  rw [show isD "str" (.dict xs) = false from rfl]
  walk_at "dd"
  rw [show isD "tuple" (.dict xs) = false from rfl]
  walk_at "dd"
  refine ⟨k, 4, rfl, by decide, by omega, fun r h0 h4 => ?_⟩
  walk_at "dd"
  refine qa2h h0 (by simpa using h4) fun d' hd' _ => ?_
  walk_at "dd"
  obtain ⟨o1, o2, o3, o4⟩ := other rfl rfl rfl
  simp only [List.mem_cons, List.not_mem_nil, or_false] at hd'
  rcases hd' with rfl | rfl | rfl | rfl <;> assumption
noncomputable abbrev qa4c : Stmt := top 33
theorem qb2z : FnScope ["_law_tape", "_law_thing", "_law_way", "_law_at"] ["_law_tape", "_law_thing"] (qa0h qa4c) := ⟨rfl, rfl, rfl, by decide +kernel, rfl, by decide +kernel, by decide +kernel⟩
theorem ok_bent {f f1 f2 : Addr} {fd fd1 fd2 : FuncData} (F : Fun K "_law_bent" "_law_bent" qa4c f fd) (B : Bl mg) (qa0l : qb2w K mg f1 fd1) (qa0q : qb2v P w K mg base n f1 fd1)
  (qa8e : Def K mg "_law_bent_leaf" qa2p ["_law_tape", "_law_thing"] f2 fd2) (qc3q : FnOk P w K mg base CX0 n f2 fd2 ["_law_tape", "_law_thing"] (spD K qd1w))
  (qa4z : Def K mg "_law_bent" qa4c ["_law_tape", "_law_thing"] f fd) {m : Nat} (qa8f : FnOk P w K mg base CX0 n f fd ["_law_tape", "_law_thing"] (spD K (qc3p m))) : FnOk P w K mg base CX0 (n + 1) f fd ["_law_tape", "_law_thing"] (spD K (qc3p (m + 1))) := by
 refine F.dok qb2z (fun cdv A outer s H E hr ls Qd h => ?_) (fun ls Qd ⟨_, _, _, _, e, _⟩ => by rw [e]; rfl)
 obtain ⟨k, c, h, d, rfl, hk, hdp, hm, hf, hc1, hc2, q⟩ := h
 obtain ⟨h, rfl⟩ := hdp.pos
 refine ⟨rfl, ?_⟩
 have sl := sizeLine_eq
 refine ⟨_, (qa0f (qa1g (i := 2) qb2z.nd rfl (Or.inl rfl) (qa0g [true, false] qa0l qa0q hr rfl (qa0a (dv 0) (qa0a qa0c qa0b))))
  (qa0f (qa1f (DW.toT (qa3u (qa3b (qa2b (qa4r rfl B.isinstance_ rfl B.tuple_ qa6j rfl (dv 1)))) (qa3u (qa0o (qa1e hr.units) qa1d (qa1l qa0w qa1w rfl B.len_ qa1s (qa0a (dv 1) qa0b)) qa0c (qa0m _)) (qa4q (qa0o qa6f (qa2r _) (dv 2) qa0c (qa0m _))))))
  (qa0i (qa0k (qa0g [true, false] qa8e qc3q hr rfl (qa0a (dv 0) (qa0a (dv 1) qa0b)))))
  qa0p)
  (qa0f (qa1g (i := 3) qb2z.nd rfl (Or.inl rfl) (qa0g [true, false] qa0l qa0q hr rfl (qa0a (dv 0) (qa0a (qa1l qa0w qa1w rfl B.len_ qa1s (qa0a (dv 1) qa0b)) qa0b))))
  (qa0f (qa1f (qa0o (qa1e hr.units) qa1d (dv 2) qa0c (qa0m _))
  (qa0i (qa0k (qa0y qa0u qa1n (qa3w (qa6h.or qa4i) qa6l (dv 1) qa4n (qa4o (dv 3))) (qa3w (qa6h.or qa4i) qa6l (dv 1) (qa4o (qa0y qa0u qa1n (dv 3) qa0c)) qa4n))))
  qa0p)
  (qa0f (qa1f (qa0o (qa1e hr.units) qa1d (dv 2) qa0c (qa0m _))
  (qa0i (qa0k (qa0y qa0u qa1n (qa3w (qa6h.or qa4i) qa6l (dv 1) qa4n (qa4o (qa0y qa0u qa1n (dv 3) qa0c))) (qa3w (qa6h.or qa4i) qa6l (dv 1) (qa4o (dv 3)) qa4n))))
  qa0p)
  (qa0f (qa1f (qa0o (qa1e hr.units) qa1d (dv 2) qa0c (qa0m _))
  (qa0i (qa0k (qa0y qa0u qa1n (qa3w (qa6h.or qa4i) qa6l (dv 1) (qa4o (dv 3)) qa4n) (qa3w (qa6h.or qa4i) qa6l (dv 1) qa4n (qa4o (dv 3))))))
  qa0p)
  (qa0i (qa0k (qa0y qa0u qa1n (qa0y qa0u qa1n (qa3w (qa6h.or qa4i) qa6l (dv 1) qa4n (qa4o (dv 3))) (qa0j (qa0a (qa0g [true, false] qa4z qa8f hr rfl (qa0a (dv 0) (qa0a (qa0r qa0n qa0s (dv 1) (dv 3) (fun _ _ => rfl)) qa0b))) qa0b))) (qa3w (qa6h.or qa4i) qa6l (dv 1) (qa4o (qa0y qa0u qa1n (dv 3) qa0c)) qa4n)))))))))), ?_⟩
 walk_at "dd"
 refine ⟨k, 10, rfl, by decide, by omega, fun r h0 h1 => ?_⟩
 walk_at "dd"
 have fin : ∀ d' : PyData, Fn (c + 1) d' -> Dp (h + 1 + 1) d' -> Qd (.d d') [some (.tape (k + 2)), none] := fun d' hd' h2 => q d' (k + 2) (by omega) hd' h2
 by_cases hk1 : ∃ xs, d = .tuple xs
 ·obtain ⟨xs, rfl⟩ := hk1
  obtain ⟨hxl, hxs⟩ := hf
  rw [show isD "tuple" (.tuple xs) = true from rfl]
  walk_at "dd"
  refine qa0t (fun c1 => ?_) (fun c1 => ?_)
  ·walk_at "dd"
   exact ⟨k + 1, c, h + 1, .tuple xs, rfl, by omega, hdp, ⟨hxl, hxs⟩, hc1, hc2, fun d' hd' h2 => fin d' hd' h2⟩
  ·refine qa0t (fun c2 => ?_) (fun c2 => ?_)
   ·walk_at "dd"
    exact ⟨k + 1, c, h + 1, .tuple xs, rfl, by omega, hdp, ⟨hxl, hxs⟩, hc1, hc2, fun d' hd' h2 => fin d' hd' h2⟩
   ·walk_at "dd"
    refine ⟨k + 1, _, rfl, by omega, by omega, fun r2 h2 h3 => ?_⟩
    obtain ⟨i, rfl⟩ : ∃ i : Nat, r2 = (i : Int) := ⟨r2.toNat, by omega⟩
    have hi : i < xs.length := by omega
    have fall : ∀ ys : List PyData, (∀ x ∈ ys, x ∈ xs) -> qa1z (c + 1) ys := fun ys hy => qa1z.of fun x hx => (hxs.mem x (hy x hx)).up (by omega)
    have dall : ∀ ys zs : List PyData, (∀ x ∈ ys, x ∈ xs) -> (∀ x ∈ zs, x ∈ xs) -> Dp (h + 1 + 1) (.tuple (ys ++ zs)) := fun ys zs h1 h2 => qa2m fun x hx => (qb8u hdp x ((List.mem_append.mp hx).elim (h1 x) (h2 x))).succ
    have e1 : (i : Int) + 1 = ((i + 1 : Nat) : Int) := by omega
    have lt : (xs.take i).length = i := by rw [List.length_take]; omega
    have lt1 : (xs.take (i + 1)).length = i + 1 := by rw [List.length_take]; omega
    have ld : (xs.drop i).length = xs.length - i := List.length_drop
    have ld1 : (xs.drop (i + 1)).length = xs.length - (i + 1) := List.length_drop
    walk_at "dd"
    refine qa0t (fun c3 => ?_) (fun c3 => ?_)
    ·walk_at "dd"
     rw [qb5n (by omega), e1, qb5o (by omega), qb1x (by omega), qa1c]
     walk_at "dd"
     exact fin _ ⟨by rw [List.length_append]; omega, qa1z.app (fall _ fun x hx => List.mem_of_mem_take hx) (fall _ fun x hx => List.mem_of_mem_drop hx)⟩ (dall _ _ (fun x hx => List.mem_of_mem_take hx) fun x hx => List.mem_of_mem_drop hx)
    ·walk_at "dd"
     refine qa0t (fun c4 => ?_) (fun c4 => ?_)
     ·walk_at "dd"
      rw [e1, qb5n (by omega), qb5o (by omega), qb1x (by omega), qa1c]
      walk_at "dd"
      exact fin _ ⟨by rw [List.length_append]; omega, qa1z.app (fall _ fun x hx => List.mem_of_mem_take hx) (fall _ fun x hx => List.mem_of_mem_drop hx)⟩ (dall _ _ (fun x hx => List.mem_of_mem_take hx) fun x hx => List.mem_of_mem_drop hx)
     ·walk_at "dd"
      refine qa0t (fun c5 => ?_) (fun c5 => ?_)
      ·walk_at "dd"
       rw [qb5o (by omega), qb5n (by omega), qb1x (by omega), qa1c]
       walk_at "dd"
       exact fin _ ⟨by rw [List.length_append]; omega, qa1z.app (fall _ fun x hx => List.mem_of_mem_drop hx) (fall _ fun x hx => List.mem_of_mem_take hx)⟩ (dall _ _ (fun x hx => List.mem_of_mem_drop hx) fun x hx => List.mem_of_mem_take hx)
      ·walk_at "dd"
       refine qa2h h2 h3 fun y hy hyi => ?_
       refine ⟨k + 2, c, h, y, rfl, by omega, qb8u hdp y hy, by omega, hxs.mem y hy, hc1, hc2, fun d' k' hk' hd' hdp' => ?_⟩
       walk_at "dd"
       rw [qb5n (by omega), e1, qb5o (by omega), qb1x (by simp; omega), qa1c, qb1x (by simp; omega), qa1c]
       walk_at "dd"
       refine q _ k' (by omega) ⟨by simp; omega, qa1z.app (qa1z.app (fall _ fun x hx => List.mem_of_mem_take hx) ⟨hd', trivial⟩) (fall _ fun x hx => List.mem_of_mem_drop hx)⟩ (qa2m fun x hx => ?_)
       rcases List.mem_append.mp hx with hx | hx
       ·rcases List.mem_append.mp hx with hx | hx
        ·exact (qb8u hdp x (List.mem_of_mem_take hx)).succ
        ·rw [List.mem_singleton.mp hx]; exact hdp'
       ·exact (qb8u hdp x (List.mem_of_mem_drop hx)).succ
 ·have hnt : isD "tuple" d = false := by
   cases d with
   | tuple xs => exact absurd ⟨xs, rfl⟩ hk1
   | _ => rfl
  rw [hnt]
  walk_at "dd"
  exact ⟨k + 1, c, h + 1, d, rfl, by omega, hdp, hf, hc1, hc2, fun d' hd' h2 => fin d' hd' h2⟩
end
theorem sum_up {h : Nat} {As : List Nd} (ih : ∀ (As : List Nd) (d : PyData) (t : Nat), st h As d = some t -> st (h + 1) As d = some t) : ∀ {ps : List PyData} {t : Nat}, sumO (ps.map fun p => st h As p) = some t -> sumO (ps.map fun p => st (h + 1) As p) = some t
 | [], t, e => e
 | p :: r, t, e => by
  have e : addO (st h As p) (sumO (r.map fun p => st h As p)) = some t := e
  show addO (st (h + 1) As p) (sumO (r.map fun p => st (h + 1) As p)) = some t
  cases e1 : st h As p with
  | none => rw [e1] at e; cases e
  | some a =>
   cases e2 : sumO (r.map fun p => st h As p) with
   | none => rw [e1, e2] at e; cases e
   | some b =>
    rw [ih As p a e1, sum_up ih e2, ← e, e1, e2]
theorem st_up : ∀ (h : Nat) (As : List Nd) (d : PyData) (t : Nat), st h As d = some t -> st (h + 1) As d = some t
 | 0, _, _, _, e => by cases e
 | h + 1, As, d, t, e => by
  cases hk : nd d with
  | none => rw [qb1j hk] at e; cases e
  | some k =>
   cases hm : may k As with
   | false => rw [st_no hk hm] at e; cases e
   | true =>
    rw [qa6w hk hm] at e ⊢
    obtain ⟨s, e1, e2⟩ := Option.map_eq_some_iff.mp e
    rw [sum_up (st_up h) e1]
    exact congrArg some e2
structure SO (n : Nat) (As : List Nd) (d : PyData) : Prop where
 ex : ∃ t, st (n + 3) As d = some t /\ t <= n
 dp : Dp (n + 3) d
 fn : Fn 9 d
theorem SO.succ {n : Nat} {As : List Nd} {d : PyData} (h : SO n As d) : SO (n + 1) As d := by
 obtain ⟨⟨t, e, ht⟩, dp, fn⟩ := h
 exact ⟨⟨t, by rw [show n + 1 + 3 = n + 3 + 1 by omega]; exact st_up _ _ _ _ e, by omega⟩, by rw [show n + 1 + 3 = n + 3 + 1 by omega]; exact dp.succ, fn⟩
theorem SO.up {n n' : Nat} {As : List Nd} {d : PyData} (h : SO n As d) (hn : n <= n') : SO n' As d := by
 induction hn with
 | refl => exact h
 | step _ ih => exact ih.succ
theorem SO.leaf {n : Nat} {As : List Nd} {w : Str} {b : Bool} {m : Str} (e : nd (.tuple [.str w, .str m]) = some (.leaf b m)) (hm : may (.leaf b m) As = true) (h1 : 1 <= n) (hw : w.length <= 9) (hl : m.length <= 9) : SO n As (.tuple [.str w, .str m]) := by
 refine SO.up (n := 1) ⟨⟨1, qc4u e hm, Nat.le_refl _⟩, qa2m fun x hx => ?_, ⟨by simp, hw, hl, trivial⟩⟩ h1
 simp only [List.mem_cons, List.not_mem_nil, or_false] at hx
 rcases hx with rfl | rfl <;> exact qa1y nofun
theorem SO.one {n : Nat} {As : List Nd} {k : Nd} {p : PyData} {xs : List PyData} (e : nd (.tuple xs) = some k) (hm : may k As = true) (hk : k.kids = [p]) (h : SO n (As ++ [k]) p) (hx : ∀ x ∈ xs, x = p ∨ (Dp (n + 3) x /\ Fn 9 x)) (hl : xs.length <= 9) : SO (n + 1) As (.tuple xs) := by
 obtain ⟨⟨t, e1, ht⟩, dp, fn⟩ := h
 refine ⟨⟨t + 1, ?_, by omega⟩, ?_, hl, qa1z.of fun x hx' => ?_⟩
 ·rw [show n + 1 + 3 = n + 3 + 1 by omega, qa6w e hm, hk]
  show (sumO [st (n + 3) (As ++ [k]) p]).map _ = _
  rw [qa5h, e1]; rfl
 ·rw [show n + 1 + 3 = n + 3 + 1 by omega]
  exact qa2m fun x hx' => (hx x hx').elim (fun z => by rw [z]; exact dp) fun z => z.1
 ·exact (hx x hx').elim (fun z => by rw [z]; exact fn) fun z => z.2
theorem SO.two {n n1 n2 : Nat} {As : List Nd} {k : Nd} {p q : PyData} {xs : List PyData} (e : nd (.tuple xs) = some k) (hm : may k As = true) (hk : k.kids = [p, q]) (h : SO n1 (As ++ [k]) p) (h' : SO n2 (As ++ [k]) q) (hn : n1 + n2 + 1 <= n) (hx : ∀ x ∈ xs, x = p ∨ x = q ∨ (Dp (n + 2) x /\ Fn 9 x)) (hl : xs.length <= 9) : SO n As (.tuple xs) := by
 obtain ⟨m, rfl⟩ : ∃ m, n = m + 1 := ⟨n - 1, by omega⟩
 obtain ⟨t1, a1, b1⟩ := h.ex
 obtain ⟨t2, a2, b2⟩ := h'.ex
 have up : ∀ {i j : Nat} {As : List Nd} {d : PyData} {t : Nat}, i <= j -> st i As d = some t -> st j As d = some t := fun hij z => by
  induction hij with
  | refl => exact z
  | step _ ih => exact st_up _ _ _ _ ih
 have g1 := h.up (show n1 <= m by omega)
 have g2 := h'.up (show n2 <= m by omega)
 refine ⟨⟨t1 + t2 + 1, ?_, by omega⟩, ?_, hl, qa1z.of fun x hx' => ?_⟩
 ·rw [show m + 1 + 3 = m + 3 + 1 by omega, qa6w e hm, hk]
  show (addO (st (m + 3) (As ++ [k]) p) (sumO [st (m + 3) (As ++ [k]) q])).map _ = _
  rw [qa5h, up (by omega) a1, up (by omega) a2]; rfl
 ·rw [show m + 1 + 3 = m + 3 + 1 by omega]
  refine qa2m fun x hx' => ?_
  rcases hx x hx' with rfl | rfl | z
  ·exact g1.dp
  ·exact g2.dp
  ·exact z.1
 ·rcases hx x hx' with rfl | rfl | z
  ·exact g1.fn
  ·exact g2.fn
  ·exact z.2
noncomputable def lv : Nat -> List Str
 | 0 => ["x", "p"]
 | 1 => ["xy", "pq"]
 | 2 => ["y", "q"]
 | _ => []
noncomputable def Lvl (Ns : List Str) : Prop := ∀ j nm, Ns[j]? = some nm -> nm ∈ lv j
theorem lv_ok : ∀ {j : Nat} {nm : Str}, nm ∈ lv j -> qa1i nm = true /\ nm.length <= 9
 | 0, nm, h => by simp only [lv, List.mem_cons, List.not_mem_nil, or_false] at h; rcases h with rfl | rfl <;> exact ⟨by decide +kernel, by decide +kernel⟩
 | 1, nm, h => by simp only [lv, List.mem_cons, List.not_mem_nil, or_false] at h; rcases h with rfl | rfl <;> exact ⟨by decide +kernel, by decide +kernel⟩
 | 2, nm, h => by simp only [lv, List.mem_cons, List.not_mem_nil, or_false] at h; rcases h with rfl | rfl <;> exact ⟨by decide +kernel, by decide +kernel⟩
 | _ + 3, nm, h => by simp [lv] at h
noncomputable def lvOf (nm : Str) : Nat := if nm ∈ lv 0 then 0 else if nm ∈ lv 1 then 1 else 2
theorem qe0l : ∀ {j : Nat} {nm : Str}, nm ∈ lv j -> lvOf nm = j
 | 0, nm, h => by simp only [lv, List.mem_cons, List.not_mem_nil, or_false] at h; rcases h with rfl | rfl <;> decide +kernel
 | 1, nm, h => by simp only [lv, List.mem_cons, List.not_mem_nil, or_false] at h; rcases h with rfl | rfl <;> decide +kernel
 | 2, nm, h => by simp only [lv, List.mem_cons, List.not_mem_nil, or_false] at h; rcases h with rfl | rfl <;> decide +kernel
 | _ + 3, nm, h => by simp [lv] at h
theorem lvl_new {Ns : List Str} (h : Lvl Ns) {nm : Str} (hm : nm ∈ lv Ns.length) : nm ∉ Ns /\ Lvl (Ns ++ [nm]) := by
 refine ⟨fun hn => ?_, fun j z hz => ?_⟩
 ·obtain ⟨j, hj, e⟩ := List.getElem_of_mem hn
  have h1 := qe0l (h j nm (by rw [List.getElem?_eq_getElem hj, e]))
  have h2 := qe0l hm
  omega
 ·by_cases hj : j < Ns.length
  ·rw [List.getElem?_append_left hj] at hz; exact h j z hz
  ·rw [List.getElem?_append_right (by omega)] at hz
   have hj2 : j = Ns.length := by
    have := (List.getElem?_eq_some_iff.mp hz).1
    simp at this; omega
   subst hj2
   simp at hz
   subst hz; exact hm
noncomputable def qd1x : List PyData := [.tuple [.str "a"], .tuple [.str "ab"], .tuple [.str "b"], .tuple [.str "a", .str "b"], .tuple [.str "a", .str "ab"], .tuple [.str "a", .str "ab", .str "b"], .tuple [.str "ab", .str "b"], .tuple [.str "a", .str "zz"]]
theorem qa9h {h : Nat} {ss : List Str} : Dp (h + 2) (.tuple (ss.map .str)) := qa2m fun x hx => by
 obtain ⟨z, _, rfl⟩ := List.mem_map.mp hx
 exact qa1y nofun
theorem qa9i {c : Nat} {ss : List Str} (hl : ss.length <= c) (h : ∀ z ∈ ss, z.length <= c) : Fn c (.tuple (ss.map .str)) := ⟨by rw [List.length_map]; exact hl, qa1z.of fun x hx => by
 obtain ⟨z, hz, rfl⟩ := List.mem_map.mp hx
 exact h z hz⟩
theorem qc3r {d : PyData} (h : d ∈ qd1x) : qa2z d = true /\ (∀ n, Dp (n + 2) d) /\ Fn 9 d := by
 have key : ∀ ss : List Str, qa2z (.tuple (ss.map .str)) = true -> ss.length <= 9 -> (∀ z ∈ ss, z.length <= 9) -> qa2z (.tuple (ss.map .str)) = true /\ (∀ n, Dp (n + 2) (.tuple (ss.map .str))) /\ Fn 9 (.tuple (ss.map .str)) := fun ss h1 h2 h3 => ⟨h1, fun n => qa9h, qa9i h2 h3⟩
 unfold qd1x at h
 simp only [List.mem_cons, List.not_mem_nil, or_false] at h
 rcases h with rfl | rfl | rfl | rfl | rfl | rfl | rfl | rfl
 ·exact key ["a"] (by decide +kernel) (by decide) (by decide +kernel)
 ·exact key ["ab"] (by decide +kernel) (by decide) (by decide +kernel)
 ·exact key ["b"] (by decide +kernel) (by decide) (by decide +kernel)
 ·exact key ["a", "b"] (by decide +kernel) (by decide) (by decide +kernel)
 ·exact key ["a", "ab"] (by decide +kernel) (by decide) (by decide +kernel)
 ·exact key ["a", "ab", "b"] (by decide +kernel) (by decide) (by decide +kernel)
 ·exact key ["ab", "b"] (by decide +kernel) (by decide) (by decide +kernel)
 ·exact key ["a", "zz"] (by decide +kernel) (by decide) (by decide +kernel)
noncomputable def qb5p : DSp := fun ls Q => ∃ k : Nat, ls = [.tape k] /\ k < 1000000 /\ ∀ d ∈ qd1x, Q (.d d) [some (.tape (k + 1))]
noncomputable def qc4w : DSp := fun ls Q => ∃ k : Nat, ls = [.tape k] /\ k < 999990 /\ ∀ (d : PyData) (k' : Nat), k' <= k + 2 -> isStep d = true -> (∀ n, Dp (n + 3) d) -> Fn 9 d -> Q (.d d) [some (.tape k')]
noncomputable def encF (F : Fr) : List PyData := F.map fun p => .tuple [.str p.1, .bool p.2]
noncomputable def qc0i : DSp := fun ls Q => ∃ (k : Nat) (As : List Nd) (F : Fr) (Ns : List Str) (sh : Nat), ls = [.tape k, .d (.list (encF F))] /\ k < 999990 /\ Rl As F Ns sh /\ (∀ p ∈ F, p.1.length <= 9) /\ ∀ (d : PyData) (k' : Nat), k' <= k + 2 -> (∀ n, 1 <= n -> SO n As d) -> Q (.d d) [some (.tape k'), none]
noncomputable def evenF : PyData -> Option PyData
 | .tuple [.str m, .bool false] => some (.str m)
 | _ => none
theorem evens (F : Fr) : (encF F).filterMap evenF = ((F.filter fun p => !p.2).map (·.1)).map .str := by
 induction F with
 | nil => rfl
 | cons p r ih =>
  obtain ⟨m, o⟩ := p
  show (PyData.tuple [.str m, .bool o] :: encF r).filterMap evenF = _
  cases o with
  | false =>
   have e : evenF (PyData.tuple [.str m, .bool false]) = some (.str m) := rfl
   rw [List.filterMap_cons_some e, ih]; rfl
  | true =>
   have e : evenF (PyData.tuple [.str m, .bool true]) = none := rfl
   rw [List.filterMap_cons_none e, ih]; rfl
section
variable {P : Program} {w : World} {K : W.Frag} {mg : Str -> Option Value} {base : Heap} {n : Nat}
noncomputable abbrev qa3m : Stmt := top 28
theorem qb8v : FnScope ["_law_tape", "_law_some"] ["_law_tape"] (qa0h qa3m) := ⟨rfl, rfl, rfl, by decide +kernel, rfl, by decide +kernel, by decide +kernel⟩
theorem qe4t {f f1 : Addr} {fd fd1 : FuncData} (F : Fun K "_law_hands" "_law_hands" qa3m f fd) (B : Bl mg) (qa0l : qb2w K mg f1 fd1) (qa0q : qb2v P w K mg base n f1 fd1) :
  FnOk P w K mg base CX0 (n + 1) f fd ["_law_tape"] (spD K qb5p) := by
 refine F.dok qb8v (fun cdv A outer s H E hr ls Qd h => ?_) (fun ls Qd ⟨k, e, _⟩ => by rw [e]; rfl)
 obtain ⟨k, rfl, hk, q⟩ := h
 refine ⟨rfl, ?_⟩
 refine ⟨_, (qa0f (qa1g (i := 1) qb8v.nd rfl (Or.inl rfl) (qa1m (qa1k (qa0a (qa0j (qa0a qa0d qa0b)) (qa0a (qa0j (qa0a qa0d qa0b)) (qa0a (qa0j (qa0a qa0d qa0b)) (qa0a (qa0j (qa0a qa0d (qa0a qa0d qa0b))) (qa0a (qa0j (qa0a qa0d (qa0a qa0d qa0b))) (qa0a (qa0j (qa0a qa0d (qa0a qa0d (qa0a qa0d qa0b)))) (qa0a (qa0j (qa0a qa0d (qa0a qa0d qa0b))) (qa0a (qa0j (qa0a qa0d (qa0a qa0d qa0b))) qa0b)))))))))))
  (qa0i (qa0k (qa0r qa0n qa0s (dv 1) (qa0g [true, false] qa0l qa0q hr rfl (qa0a (dv 0) (qa0a qa0c qa0b))) (fun _ _ => rfl))))), ?_⟩
 walk_at "dd"
 refine ⟨k, 8, rfl, by decide, hk, fun r h0 h1 => ?_⟩
 walk_at "dd"
 exact qa2h h0 h1 fun d hd _ => q d hd
noncomputable abbrev qa5a : Stmt := top 29
theorem qc0r : FnScope ["_law_tape", "_law_way"] ["_law_tape"] (qa0h qa5a) := ⟨rfl, rfl, rfl, by decide +kernel, rfl, by decide +kernel, by decide +kernel⟩
theorem qe4u {f f1 f2 : Addr} {fd fd1 fd2 : FuncData} (F : Fun K "_law_step" "_law_step" qa5a f fd) (B : Bl mg) (qa0l : qb2w K mg f1 fd1) (qa0q : qb2v P w K mg base n f1 fd1)
  (qa6e : Def K mg "_law_hands" qa3m ["_law_tape"] f2 fd2) (qb3a : FnOk P w K mg base CX0 n f2 fd2 ["_law_tape"] (spD K qb5p)) : FnOk P w K mg base CX0 (n + 1) f fd ["_law_tape"] (spD K qc4w) := by
 refine F.dok qc0r (fun cdv A outer s H E hr ls Qd h => ?_) (fun ls Qd ⟨k, e, _⟩ => by rw [e]; rfl)
 obtain ⟨k, rfl, hk, q⟩ := h
 refine ⟨rfl, ?_⟩
 refine ⟨_, (qa0f (qa1g (i := 1) qc0r.nd rfl (Or.inl rfl) (qa0g [true, false] qa0l qa0q hr rfl (qa0a (dv 0) (qa0a qa0c qa0b))))
  (qa0f (qa1f (qa0o qa6f (qa2r _) (dv 1) qa0c (qa0m _))
  (qa0i (qa0k (qa0j (qa0a qa0d qa0b))))
  qa0p)
  (qa0f (qa1f (qa0o (qa1e hr.units) qa1d (dv 1) qa0c (qa0m _))
  (qa0i (qa0k (qa0j (qa0a qa0d qa0b))))
  qa0p)
  (qa0i (qa0k (qa0j (qa0a (qa0r qa0n qa0s (qa1m (qa1k (qa0a qa0d (qa0a qa0d (qa0a qa0d qa0b))))) (qa0y qa3o qa3q (dv 1) qa0c) (fun _ _ => rfl)) (qa0a (qa0g [true] qa6e qb3a hr rfl (qa0a (dv 0) qa0b)) qa0b)))))))), ?_⟩
 walk_at "dd"
 refine ⟨k, 6, rfl, by decide, by omega, fun r h0 h1 => ?_⟩
 walk_at "dd"
 refine qa0t (fun c => q _ _ (by omega) (by decide +kernel) (fun n => qa9h (ss := ["on"])) (qa9i (ss := ["on"]) (by decide) (by decide +kernel))) fun c' => ?_
 walk_at "dd"
 refine qa0t (fun c2 => q _ _ (by omega) (by decide +kernel) (fun n => qa9h (ss := ["back"])) (qa9i (ss := ["back"]) (by decide) (by decide +kernel))) fun c2' => ?_
 walk_at "dd"
 refine qa2h (by omega) (by simp; omega) fun d hd _ => ?_
 refine ⟨k + 1, rfl, by omega, fun h hh => ?_⟩
 walk_at "dd"
 obtain ⟨g1, g2, g3⟩ := qc3r hh
 simp at hd
 have dps : ∀ (z : Str) (n : Nat), Dp (n + 3) (.tuple [.str z, h]) := fun z n => qa2m fun x hx => by
  simp only [List.mem_cons, List.not_mem_nil, or_false] at hx
  rcases hx with rfl | rfl
  ·exact qa1y nofun
  ·exact g2 n
 rcases hd with rfl | rfl
 ·exact q _ _ (by omega) (by rw [qb8p]; rw [g1]; rfl) (dps _) ⟨by simp, (show (Str.ofString "one").length <= 9 by decide +kernel), g3, trivial⟩
 ·exact q _ _ (by omega) (by rw [qb8p]; rw [g1]; rfl) (dps _) ⟨by simp, (show (Str.ofString "pool").length <= 9 by decide +kernel), g3, trivial⟩
noncomputable abbrev qa5b : Stmt := top 30
theorem qc0s : FnScope ["_law_tape", "_law_free", "_law_some"] ["_law_tape", "_law_free"] (qa0h qa5b) := ⟨rfl, rfl, rfl, by decide +kernel, rfl, by decide +kernel, by decide +kernel⟩
theorem qe7l {f f1 : Addr} {fd fd1 : FuncData} (F : Fun K "_law_leaf" "_law_leaf" qa5b f fd) (B : Bl mg) (qa0l : qb2w K mg f1 fd1) (qa0q : qb2v P w K mg base n f1 fd1) :
  FnOk P w K mg base CX0 (n + 1) f fd ["_law_tape", "_law_free"] (spD K qc0i) := by
 refine F.dok qc0s (fun cdv A outer s H E hr ls Qd h => ?_) (fun ls Qd ⟨k, _, F, _, _, e, _⟩ => by rw [e]; rfl)
 obtain ⟨k, As, F, Ns, sh, rfl, hk, R, hl9, q⟩ := h
 refine ⟨rfl, ?_⟩
 have hF := R.fl
 have hN := R.nl
 refine ⟨_, (qa0f (qc4l (i := 2) qc0s.nd rfl rfl ["_law_name", "_law_odd"] [] rfl (by rfl) (by decide +kernel) (qa6b (dv 1)) (fun _ _ _ => (qc9g (n := 2) rfl (qa9d (qa1u (i := 0) (show (["_law_name", "_law_odd"] : List Str).Nodup by decide +kernel) rfl (Or.inl rfl)) (qa9d (qa1u (i := 1) (show (["_law_name", "_law_odd"] : List Str).Nodup by decide +kernel) rfl (Or.inl rfl)) qc4k)))) (fun _ _ _ => (qc0d (qa3b (qc8x (dv 1))))) (fun _ _ _ => (dv 0)))
  (qa0f (qa1f (DW.toT (qa7d (qa0o (qc3b hr.units) qc3a (dv 2) (qa1m (qa1k qa0b)) (qa0m _)) (qa6t (qa0o op_gt (qa2r _) (qa0g [true, false] qa0l qa0q hr rfl (qa0a (dv 0) (qa0a qa0c qa0b))) qa0c (qa0m _)))))
  (qa0i (qa0k (qa0j (qa0a qa0d (qa0a (qa0r qa0n qa0s (dv 2) (qa0g [true, false] qa0l qa0q hr rfl (qa0a (dv 0) (qa0a (qa1l qa0w qa1w rfl B.len_ qa1s (qa0a (dv 2) qa0b)) qa0b))) (fun _ _ => rfl)) qa0b)))))
  qa0p)
  (qa0i (qa0k (qa0j (qa0a qa0d (qa0a (qa0r qa0n qa0s (qa1m (qa1k (qa0a qa0d (qa0a qa0d (qa0a qa0d (qa0a qa0d qa0b)))))) (qa0g [true, false] qa0l qa0q hr rfl (qa0a (dv 0) (qa0a qa0c qa0b))) (fun _ _ => rfl)) qa0b))))))), ?_⟩
 walk_at "dd"
 refine ⟨by simp [encF]; omega, qa9f (fun ρ => ∃ a b, ρ = [a, b]) evenF ⟨none, none, rfl⟩ (fun x ρ N hx hρ hN => ?_) fun ρ _ => ?_⟩
 ·obtain ⟨a, b, rfl⟩ := hρ
  obtain ⟨⟨m, o⟩, _, rfl⟩ := List.mem_map.mp hx
  walk_at "dd"
  cases o with
  | true => exact hN _ ⟨_, _, rfl⟩
  | false => exact hN _ ⟨_, _, rfl⟩
 rw [evens]
 have hev : ∀ z ∈ (F.filter fun p => !p.2).map (·.1), (z, false) ∈ F := fun z hz => by
  obtain ⟨p, hp, rfl⟩ := List.mem_map.mp hz
  obtain ⟨h1, h2⟩ := List.mem_filter.mp hp
  obtain ⟨a, b⟩ := p
  have : b = false := by simpa using h2
  subst this; exact h1
 have hsh : SeqAt.shaped (.list (((F.filter fun p => !p.2).map (·.1)).map .str)) = true := qb2y fun z hz => qb5k (R.sub _ (hev z hz)).2
 have hle : ((F.filter fun p => !p.2).map (·.1)).length <= F.length := by rw [List.length_map]; exact List.length_filter_le ..
 generalize (F.filter fun p => !p.2).map (·.1) = ev at hev hsh hle
 walk_at "dd"
 rw [qc9j rfl hsh rfl]
 walk_at "dd"
 have fact : ∀ k', k' <= k + 1 -> later (dRet (dTup (qa7w (dC (PyData.str "fact")) (qa7w (dOp fIx (dFz (dLst (qa7w (dC (PyData.str "p")) (qa7w (dC (PyData.str "pq")) (qa7w (dC (PyData.str "q")) (qa7w (dC (PyData.str "zz")) dNil)))))) (qc2y [true, false] qd1a (qa7w (dVar 0) (qa7w (dC (PyData.int 4)) dNil)))) dNil))))
   { nx := fun ρ => Qd (RV.d PyData.none) (mask [L.tape k, L.d (PyData.list (encF F))] ρ), rt := fun r ρ => Qd r (mask [L.tape k, L.d (PyData.list (encF F))] ρ) } [some (L.tape k'), some (L.d (PyData.list (encF F))), some (L.own (ev.map .str))] := fun k' hk' => by
  walk_at "dd"
  refine ⟨k', 4, rfl, by decide, by omega, fun r h0 h1 => ?_⟩
  walk_at "dd"
  refine qa2h h0 h1 fun d hd _ => ?_
  walk_at "dd"
  simp only [List.mem_cons, List.not_mem_nil, or_false] at hd
  rcases hd with rfl | rfl | rfl | rfl <;> exact q _ _ (by omega) fun n hn => SO.leaf (b := false) rfl rfl hn (by decide +kernel) (by decide +kernel)
 refine ite_b (fun c => ?_) (fun c => ?_)
 ·have hne : 0 < ev.length := by
   cases ev with
   | nil => simp [PyData.eqv, PyData.eqvAll] at c
   | cons _ _ => simp
  refine ⟨k, 3, rfl, by decide, by omega, fun r h0 h1 => ?_⟩
  walk_at "dd"
  refine qa0t (fun c2 => ?_) (fun c2 => fact _ (by omega))
  refine ⟨k + 1, ev.length, by rw [List.length_map], by omega, by omega, fun r2 h2 h3 => ?_⟩
  walk_at "dd"
  refine qa2h h2 (by rw [List.length_map]; exact h3) fun d hd _ => ?_
  walk_at "dd"
  obtain ⟨z, hz, rfl⟩ := List.mem_map.mp hd
  have hzF := hev z hz
  have hnm := (R.sub _ hzF).2
  refine q _ _ (by omega) fun n hn => SO.leaf (b := true) (m := z) ?_ ?_ hn (by decide +kernel) (hl9 _ hzF)
  ·show (qa4l (.str z)).map (Nd.leaf true) = _
   rw [show qa4l (.str z) = some z from if_pos hnm]; rfl
  ·have := R.fr z false
   rw [decide_eq_true hzF] at this
   exact this.symm
 ·exact fact _ (by omega)
end
noncomputable def spSen (m : Nat) : DSp := fun ls Q => ∃ (k size : Nat) (As : List Nd) (F : Fr) (Ns : List Str) (sh : Nat), ls = [.tape k, .d (.int size), .d (.list (encF F)), .d (.int Ns.length), .d (.int sh)] /\ 1 <= size /\ size <= m /\ size <= 100 /\ Ns.length <= 3 /\ sh <= 2 /\ Rl As F Ns sh /\ Lvl Ns /\ (∀ p ∈ F, p.1.length <= 9) /\ k + 10 * size <= 990000 /\
 ∀ (d : PyData) (k' : Nat), k' <= k + 10 * size -> SO size As d -> Q (.d d) [some (.tape k'), none, none, none, none]
noncomputable def flipD : PyData -> Option PyData
 | .tuple [.str m, .bool o] => some (.tuple [.str m, .bool !o])
 | _ => none
theorem qe7m (F : Fr) : (encF F).filterMap flipD = encF (qb5l F) := by
 induction F with
 | nil => rfl
 | cons p r ih =>
  obtain ⟨m, o⟩ := p
  show (PyData.tuple [.str m, .bool o] :: encF r).filterMap flipD = _
  have e : flipD (PyData.tuple [.str m, .bool o]) = some (PyData.tuple [.str m, .bool !o]) := rfl
  rw [List.filterMap_cons_some e, ih]
  rfl
noncomputable def skel : Nd -> Nd
 | .leaf b m => .leaf b m
 | .no _ => .no .none
 | .two _ _ _ => .two "" .none .none
 | .mod _ _ _ => .mod "" .none .none
 | .bind _ m _ => .bind "" m .none
 | .sho _ _ _ => .sho .none .none .none
theorem qa9j (m : Str) : ∀ (l : List Nd) (c : Nat), mw m c (l.map skel) = mw m c l
 | [], _ => rfl
 | .sho _ _ _ :: _, _ => rfl
 | .bind _ x _ :: r, c => by
  show (if x = m then decide (c % 2 = 0) else mw m c (r.map skel)) = (if x = m then decide (c % 2 = 0) else mw m c r)
  rw [qa9j m r c]
 | .no _ :: r, c => qa9j m r (c + 1)
 | .leaf _ _ :: r, c => qa9j m r c
 | .two _ _ _ :: r, c => qa9j m r c
 | .mod _ _ _ :: r, c => qa9j m r c
theorem qa5c : ∀ l : List Nd, qa1v (l.map skel) = qa1v l
 | [] => rfl
 | .bind _ m _ :: r => congrArg (m :: ·) (qa5c r)
 | .sho _ _ _ :: r => qa5c r
 | .no _ :: r => qa5c r
 | .leaf _ _ :: r => qa5c r
 | .two _ _ _ :: r => qa5c r
 | .mod _ _ _ :: r => qa5c r
theorem qc3s (l : List Nd) : shows (l.map skel) = shows l := by
 unfold shows
 rw [List.filter_map, List.length_map]
 congr 2
 funext k
 cases k <;> rfl
theorem qe7n (k : Nd) {As As' : List Nd} (h : As.map skel = As'.map skel) : may k As = may k As' := by
 have e1 : ∀ m, mw m 0 As.reverse = mw m 0 As'.reverse := fun m => by rw [← qa9j m As.reverse, ← qa9j m As'.reverse, List.map_reverse, List.map_reverse, h]
 have e2 : qa1v As = qa1v As' := by rw [← qa5c As, ← qa5c As', h]
 have e3 : shows As = shows As' := by rw [← qc3s As, ← qc3s As', h]
 cases k with
 | leaf b m => cases b; rfl; exact e1 m
 | bind w m p => show (decide ((qa1v As).length < 4) && !decide (m ∈ qa1v As)) = _; rw [e2]; rfl
 | sho p q r => show decide (shows As < 3) = _; rw [e3]; rfl
 | _ => rfl
theorem qe0m : ∀ (n : Nat) {As As' : List Nd} (d : PyData), As.map skel = As'.map skel -> st n As d = st n As' d
 | 0, _, _, _, _ => rfl
 | n + 1, As, As', d, h => by
  cases hk : nd d with
  | none => rw [qb1j hk, qb1j hk]
  | some k =>
   have em := qe7n k h
   cases hm : may k As with
   | false => rw [st_no hk hm, st_no hk (em.symm.trans hm)]
   | true =>
    rw [qa6w hk hm, qa6w hk (em.symm.trans hm)]
    have : (fun p => st n (As ++ [k]) p) = fun p => st n (As' ++ [k]) p := funext fun p => qe0m n p (by rw [List.map_append, List.map_append, h])
    rw [this]
theorem SO.sk {n : Nat} {As As' : List Nd} {d : PyData} (h : SO n As d) (e : As.map skel = As'.map skel) : SO n As' d := by
 obtain ⟨t, e1, e2⟩ := h.ex
 exact ⟨⟨t, by rw [← qe0m _ d e]; exact e1, e2⟩, h.dp, h.fn⟩
theorem sk {As : List Nd} {k k' : Nd} (h : skel k = skel k') : (As ++ [k]).map skel = (As ++ [k']).map skel := by rw [List.map_append, List.map_append]; exact congrArg (As.map skel ++ [·]) h
theorem flat9 {n : Nat} {z : Str} (h : z.length <= 9) : Dp (n + 3) (.str z) /\ Fn 9 (.str z) := ⟨qa1y nofun, h⟩
section
variable {P : Program} {w : World} {K : W.Frag} {mg : Str -> Option Value} {base : Heap} {n : Nat}
noncomputable abbrev qa2j : Stmt := top 31
theorem qa2e : FnScope ["_law_tape", "_law_size", "_law_free", "_law_binders", "_law_shows", "_law_way", "_law_flipped", "_law_word", "_law_name", "_law_body", "_law_first", "_law_told", "_law_one"] ["_law_tape", "_law_size", "_law_free", "_law_binders", "_law_shows"] (qa0h qa2j) := ⟨rfl, rfl, rfl, by decide +kernel, rfl, by decide +kernel, by decide +kernel⟩
theorem qd4v {f f1 f2 f3 f4 : Addr} {fd fd1 fd2 fd3 fd4 : FuncData} (F : Fun K "_law_sentence" "_law_sentence" qa2j f fd) (B : Bl mg) (qa0l : qb2w K mg f1 fd1)
  (qa6e : Def K mg "_law_hands" qa3m ["_law_tape"] f2 fd2) (qb5q : Def K mg "_law_step" qa5a ["_law_tape"] f3 fd3) (qb5r : Def K mg "_law_leaf" qa5b ["_law_tape", "_law_free"] f4 fd4)
  (qa1r : Def K mg "_law_sentence" qa2j ["_law_tape", "_law_size", "_law_free", "_law_binders", "_law_shows"] f fd) {m : Nat} (qa0q : qb2v P w K mg base n f1 fd1) (qb3a : FnOk P w K mg base CX0 n f2 fd2 ["_law_tape"] (spD K qb5p))
  (qe2b : FnOk P w K mg base CX0 n f3 fd3 ["_law_tape"] (spD K qc4w)) (qe2c : FnOk P w K mg base CX0 n f4 fd4 ["_law_tape", "_law_free"] (spD K qc0i)) (qa2k : FnOk P w K mg base CX0 n f fd ["_law_tape", "_law_size", "_law_free", "_law_binders", "_law_shows"] (spD K (spSen m))) :
  FnOk P w K mg base CX0 (n + 1) f fd ["_law_tape", "_law_size", "_law_free", "_law_binders", "_law_shows"] (spD K (spSen (m + 1))) := by
 refine F.dok qa2e (fun cdv A outer s H E hr ls Qd h => ?_) (fun ls Qd ⟨k, _, _, F, _, _, e, _⟩ => by rw [e]; rfl)
 obtain ⟨k, size, As, F, Ns, sh, rfl, hs1, hs2, hs3, hb, hsh, R, hlv, hl9, hk, q⟩ := h
 refine ⟨rfl, ?_⟩
 have hF := R.fl
 refine ⟨_, (qa0f (qa1g (i := 5) qa2e.nd rfl (Or.inl rfl) (qa0g [true, false] qa0l qa0q hr rfl (qa0a (dv 0) (qa0a qa0c qa0b))))
  (qa0f (qa1f (DW.toT (qa3u (qa0o qa6f (qa2r _) (dv 1) qa0c (qa0m _)) (qa4q (qa0o (qa1e hr.units) qa1d (dv 5) qa0c (qa0m _)))))
  (qa0i (qa0k (qa0g [true, false] qb5r qe2c hr rfl (qa0a (dv 0) (qa0a (dv 2) qa0b)))))
  qa0p)
  (qa0f (qa1f (qa0o (qa1e hr.units) qa1d (dv 5) qa0c (qa0m _))
  (qa0f (qc4l (i := 6) qa2e.nd rfl rfl ["_law_name", "_law_odd"] [] rfl (by rfl) (by decide +kernel) (qa6b (dv 2)) (fun _ _ _ => (qc9g (n := 2) rfl (qa9d (qa1u (i := 0) (show (["_law_name", "_law_odd"] : List Str).Nodup by decide +kernel) rfl (Or.inl rfl)) (qa9d (qa1u (i := 1) (show (["_law_name", "_law_odd"] : List Str).Nodup by decide +kernel) rfl (Or.inl rfl)) qc4k)))) (fun _ _ _ => qa7o) (fun _ _ _ => (qa0j (qa0a (dv 0) (qa0a (de_not (dv 1)) qa0b)))))
  (qa0i (qa0k (qa0j (qa0a qa0d (qa0a (qa0g [true, false, false, false, false] qa1r qa2k hr rfl (qa0a (dv 0) (qa0a (qa0y qa3o qa3q (dv 1) qa0c) (qa0a (dv 6) (qa0a (dv 3) (qa0a (dv 4) qa0b)))))) qa0b))))))
  qa0p)
  (qa0f (qa1f (DW.toT (qa3u (qa0o qa6f (qa2r _) (dv 5) qa0c (qa0m _)) (qa4q (qa0o qa6f (qa2r _) (dv 1) qa0c (qa0m _)))))
  (qa0f (qa1g (i := 7) qa2e.nd rfl (Or.inl rfl) (qa0r qa0n qa0s (qa1m (qa1k (qa0a qa0d (qa0a qa0d qa0b)))) (qa0g [true, false] qa0l qa0q hr rfl (qa0a (dv 0) (qa0a qa0c qa0b))) (fun _ _ => rfl)))
  (qa0i (qa0k (qa0j (qa0a (dv 7) (qa0a (qa0g [true] qb5q qe2b hr rfl (qa0a (dv 0) qa0b)) (qa0a (qa0g [true, false, false, false, false] qa1r qa2k hr rfl (qa0a (dv 0) (qa0a (qa0y qa3o qa3q (dv 1) qa0c) (qa0a (dv 2) (qa0a (dv 3) (qa0a (dv 4) qa0b)))))) qa0b)))))))
  qa0p)
  (qa0f (qa1f (DW.toT (qa7d (qa0o qa6f (qa2r _) (dv 5) qa0c (qa0m _)) (qa6t (qa0o qa6f (qa2r _) (dv 3) qa0c (qa0m _)))))
  (qa0f (qa1g (i := 8) qa2e.nd rfl (Or.inl rfl) (qa0r qa0n qa0s (qa0r qa0n qa0s (qa1m (qa1k (qa0a (qa1m (qa1k (qa0a qa0d (qa0a qa0d (qa0a qa0d qa0b))))) (qa0a (qa1m (qa1k (qa0a qa0d (qa0a qa0d (qa0a qa0d qa0b))))) qa0b)))) (qa0g [true, false] qa0l qa0q hr rfl (qa0a (dv 0) (qa0a qa0c qa0b))) (fun _ _ => rfl)) (dv 3) (fun _ _ => rfl)))
  (qa0f (qa1g (i := 9) qa2e.nd rfl (Or.inl rfl) (qa0g [true, false, false, false, false] qa1r qa2k hr rfl (qa0a (dv 0) (qa0a (qa0y qa3o qa3q (dv 1) qa0c) (qa0a (qa0y qa0u qa1n (dv 2) (qa1m (qa1k (qa0a (qa0j (qa0a (dv 8) (qa0a qa2v qa0b))) qa0b)))) (qa0a (qa0y qa0u qa1n (dv 3) qa0c) (qa0a (dv 4) qa0b)))))))
  (qa0i (qa0k (qa0j (qa0a (qa0r qa0n qa0s (qa1m (qa1k (qa0a qa0d (qa0a qa0d qa0b)))) (qa0g [true, false] qa0l qa0q hr rfl (qa0a (dv 0) (qa0a qa0c qa0b))) (fun _ _ => rfl)) (qa0a (dv 8) (qa0a (dv 9) qa0b))))))))
  qa0p)
  (qa0f (qa1g (i := 10) qa2e.nd rfl (Or.inl rfl) (qa0y qa0u qa1n qa0c (qa0g [true, false] qa0l qa0q hr rfl (qa0a (dv 0) (qa0a (qa0y qa3o qa3q (dv 1) qa0c) qa0b)))))
  (qa0f (qa1f (DW.toT (qa7d (qa0o (qa1e hr.units) qa1d (dv 5) qa0c (qa0m _)) (qa6t (qa0o qa6f (qa2r _) (dv 4) qa0c (qa0m _)))))
  (qa0f (qa1g (i := 11) qa2e.nd rfl (Or.inl rfl) (qa0g [true, false, false, false, false] qa1r qa2k hr rfl (qa0a (dv 0) (qa0a (dv 10) (qa0a (qa1m (qa1k qa0b)) (qa0a (dv 3) (qa0a (qa0y qa0u qa1n (dv 4) qa0c) qa0b)))))))
  (qa0i (qa0k (qa0j (qa0a qa0d (qa0a (qa0g [true] qa6e qb3a hr rfl (qa0a (dv 0) qa0b)) (qa0a (dv 11) (qa0a (qa0g [true, false, false, false, false] qa1r qa2k hr rfl (qa0a (dv 0) (qa0a (qa0y qa3o qa3q (qa0y qa3o qa3q (dv 1) qa0c) (dv 10)) (qa0a (qa1m (qa1k qa0b)) (qa0a (dv 3) (qa0a (qa0y qa0u qa1n (dv 4) qa0c) qa0b)))))) qa0b))))))))
  qa0p)
  (qa0f (qa1g (i := 12) qa2e.nd rfl (Or.inl rfl) (qa0g [true, false, false, false, false] qa1r qa2k hr rfl (qa0a (dv 0) (qa0a (dv 10) (qa0a (dv 2) (qa0a (dv 3) (qa0a (dv 4) qa0b)))))))
  (qa0i (qa0k (qa0j (qa0a (qa0r qa0n qa0s (qa1m (qa1k (qa0a qa0d (qa0a qa0d qa0b)))) (qa0g [true, false] qa0l qa0q hr rfl (qa0a (dv 0) (qa0a qa0c qa0b))) (fun _ _ => rfl)) (qa0a (dv 12) (qa0a (qa0g [true, false, false, false, false] qa1r qa2k hr rfl (qa0a (dv 0) (qa0a (qa0y qa3o qa3q (qa0y qa3o qa3q (dv 1) qa0c) (dv 10)) (qa0a (dv 2) (qa0a (dv 3) (qa0a (dv 4) qa0b)))))) qa0b)))))))))))))), ?_⟩
 walk_at "dd"
 refine ⟨k, 12, rfl, by decide, by omega, fun way h0 h1 => ?_⟩
 walk_at "dd"
 have leaf : qc0i [L.tape (k + 1), L.d (PyData.list (encF F))] fun r outs => match r with
   | RV.d x => Qd (RV.d x) [outs[0]?.join.bind (qa7x (L.tape (k + 1))), none, none, none, none]
   | RV.new ys => Qd (RV.d (PyData.list ys)) [outs[0]?.join.bind (qa7x (L.tape (k + 1))), none, none, none, none] := by
  refine ⟨k + 1, As, F, Ns, sh, rfl, by omega, R, hl9, fun s k' hk' ok => ?_⟩
  walk_at "dd"
  exact q s k' (by omega) (ok size hs1)
 refine ite_or (fun _ => leaf) fun c1 c2 => ?_
 have e1 : (size : Int) - 1 = ((size - 1 : Nat) : Int) := by omega
 have es : size = (size - 1) + 1 := by omega
 have w9 : ∀ z : Str, z ∈ qa3d -> z.length <= 9 := by decide +kernel
 walk_at "dd"
 refine qa0t (fun c3 => ?_) fun c3 => ?_
 ·-- not
  walk_at "dd"
  refine ⟨by simp [encF]; omega, qa9f (fun ρ => ∃ a b, ρ = [a, b]) flipD ⟨none, none, rfl⟩ (fun x ρ N hx hρ hN => ?_) fun ρ _ => ?_⟩
  ·obtain ⟨a, b, rfl⟩ := hρ
   obtain ⟨⟨m, o⟩, _, rfl⟩ := List.mem_map.mp hx
   walk_at "dd"
   exact hN _ ⟨_, _, rfl⟩
  rw [qe7m]
  walk_at "dd"
  refine ⟨k + 1, size - 1, As ++ [.no .none], qb5l F, Ns, sh, by rw [e1], by omega, by omega, by omega, hb, hsh, R.no _, hlv, fun p hp => ?_, by omega, fun s k' hk' ok => ?_⟩
  ·obtain ⟨p0, h0, rfl⟩ := List.mem_map.mp hp
   exact hl9 p0 h0
  walk_at "dd"
  refine q _ k' (by omega) ?_
  rw [es]
  refine SO.one (k := .no s) rfl rfl rfl (ok.sk (sk rfl)) (fun x hx => ?_) (by simp)
  simp only [List.mem_cons, List.not_mem_nil, or_false] at hx
  rcases hx with rfl | rfl
  ·exact .inr (flat9 (w9 _ (by decide)))
  ·exact .inl rfl
 walk_at "dd"
 refine ite_or (fun c4 => ?_) fun c4 c5 => ?_
 ·-- some, every
  refine ⟨k + 1, 2, rfl, by decide, by omega, fun r g0 g1 => ?_⟩
  walk_at "dd"
  refine qa2h g0 g1 fun wd hwd _ => ?_
  walk_at "dd"
  refine ⟨k + 2, rfl, by omega, fun sp k2 hk2 hst hdp hfn => ?_⟩
  walk_at "dd"
  obtain ⟨z, rfl, hz⟩ : ∃ z : Str, wd = .str z /\ (z = "some" ∨ z = "every") := by
   simp only [List.mem_cons, List.not_mem_nil, or_false] at hwd
   rcases hwd with rfl | rfl
   ·exact ⟨_, rfl, .inl rfl⟩
   ·exact ⟨_, rfl, .inr rfl⟩
  refine ⟨k2, size - 1, As ++ [.mod z .none .none], F, Ns, sh, by rw [e1], by omega, by omega, by omega, hb, hsh, R.mod hz, hlv, hl9, by omega, fun s k' hk' ok => ?_⟩
  walk_at "dd"
  refine q _ k' (by omega) ?_
  rw [es]
  have hz9 : z.length <= 9 := by rcases hz with rfl | rfl <;> decide +kernel
  have enk : nd (.tuple [.str z, sp, s]) = some (.mod z sp s) := by
   have n1 : ¬ (z = "and" ∨ z = "or") := by rcases hz with rfl | rfl <;> decide +kernel
   show (if z = "and" ∨ z = "or" then _ else if z = "some" ∨ z = "every" then (if isStep sp = true then _ else _) else _) = _
   rw [if_neg n1, if_pos hz, if_pos hst]
  refine SO.one enk rfl rfl (ok.sk (sk rfl)) (fun x hx => ?_) (by simp)
  simp only [List.mem_cons, List.not_mem_nil, or_false] at hx
  rcases hx with rfl | rfl | rfl
  ·exact .inr (flat9 hz9)
  ·exact .inr ⟨hdp _, hfn⟩
  ·exact .inl rfl
 walk_at "dd"
 refine qd9r (fun c6 c7 => ?_) fun c6 => ?_
 ·-- least, most
  have hb3 : Ns.length < 3 := by omega
  refine ⟨k + 1, 2, rfl, by decide, by omega, fun r g0 g1 => ?_⟩
  walk_at "dd"
  refine qa2h g0 g1 fun nms hnms _ => ?_
  have hx : ∃ xs, nms = .list xs /\ xs.length = 3 /\ ∀ d, xs[Ns.length]? = some d -> ∃ m, d = .str m /\ m ∈ lv Ns.length := by
   generalize Ns.length = b at hb3
   have cb : b = 0 ∨ b = 1 ∨ b = 2 := by omega
   simp only [List.mem_cons, List.not_mem_nil, or_false] at hnms
   rcases hnms with rfl | rfl <;> refine ⟨_, rfl, rfl, fun d hd => ?_⟩ <;> rcases cb with rfl | rfl | rfl <;> simp at hd <;> subst hd <;> exact ⟨_, rfl, by simp [lv]⟩
  obtain ⟨xs, rfl, hxl, hxs⟩ := hx
  walk_at "dd"
  refine qa2h (by omega) (by rw [hxl]; omega) fun d _ hd => ?_
  obtain ⟨nm, rfl, hnm⟩ := hxs d (by simpa using hd)
  obtain ⟨hok, hnl⟩ := lv_ok hnm
  obtain ⟨hnew, hlv2⟩ := lvl_new hlv hnm
  walk_at "dd"
  have eF : encF F ++ [PyData.tuple [.str nm, .bool false]] = encF (F ++ [(nm, false)]) := by simp [encF]
  have hFl : (encF F).length = F.length := by simp [encF]
  have hsl := sizeLine_eq
  rw [qb1w (by rw [hFl]; show _ + 1 <= _; omega), eF]
  walk_at "dd"
  have e2 : (Ns.length : Int) + 1 = (((Ns ++ [nm]).length : Nat) : Int) := by simp
  refine ⟨k + 1 + 1, size - 1, As ++ [.bind "least" nm .none], F ++ [(nm, false)], Ns ++ [nm], sh, by rw [e1, e2], by omega, by omega, by omega, by simp; omega, hsh, R.bind (.inl rfl) hnew (by omega) hok, hlv2, fun p hp => ?_, by omega, fun s k' hk' ok => ?_⟩
  ·rcases List.mem_append.mp hp with hp | hp
   ·exact hl9 p hp
   ·rw [List.mem_singleton.mp hp]; exact hnl
  walk_at "dd"
  refine ⟨k', 2, rfl, by decide, by omega, fun r2 g2 g3 => ?_⟩
  walk_at "dd"
  refine qa2h g2 g3 fun wd hwd _ => ?_
  walk_at "dd"
  obtain ⟨z, rfl, hz⟩ : ∃ z : Str, wd = .str z /\ (z = "least" ∨ z = "most") := by
   simp only [List.mem_cons, List.not_mem_nil, or_false] at hwd
   rcases hwd with rfl | rfl
   ·exact ⟨_, rfl, .inl rfl⟩
   ·exact ⟨_, rfl, .inr rfl⟩
  refine q _ _ (by omega) ?_
  rw [es]
  have hz9 : z.length <= 9 := by rcases hz with rfl | rfl <;> decide +kernel
  have enk : nd (.tuple [.str z, .str nm, s]) = some (.bind z nm s) := by
   have n1 : ¬ (z = "and" ∨ z = "or") := by rcases hz with rfl | rfl <;> decide +kernel
   have n2 : ¬ (z = "some" ∨ z = "every") := by rcases hz with rfl | rfl <;> decide +kernel
   show (if z = "and" ∨ z = "or" then _ else if z = "some" ∨ z = "every" then _ else if z = "least" ∨ z = "most" then (qa4l (.str nm)).map _ else _) = _
   rw [if_neg n1, if_neg n2, if_pos hz, show qa4l (.str nm) = some nm from if_pos hok]; rfl
  have emay : may (.bind z nm s) As = true := by
   show (decide ((qa1v As).length < 4) && !decide (nm ∈ qa1v As)) = true
   rw [← R.nm, decide_eq_true (by omega), decide_eq_false hnew]; rfl
  have ok2 : SO (size - 1) (As ++ [.bind z nm s]) s := ok.sk (sk rfl)
  refine SO.one enk emay rfl ok2 (fun x hx => ?_) (by simp)
  simp only [List.mem_cons, List.not_mem_nil, or_false] at hx
  rcases hx with rfl | rfl | rfl
  ·exact .inr (flat9 hz9)
  ·exact .inr (flat9 hnl)
  ·exact .inl rfl
 walk_at "dd"
 refine ⟨k + 1, size - 2, by rw [show (size : Int) - 2 = ((size - 2 : Nat) : Int) by omega], by omega, by omega, fun r g0 g1 => ?_⟩
 walk_at "dd"
 obtain ⟨fi, rfl⟩ : ∃ fi : Nat, r = fi := ⟨r.toNat, by omega⟩
 have e3 : (1 : Int) + (fi : Int) = ((1 + fi : Nat) : Int) := by omega
 have e4 : (size : Int) - 1 - (1 + (fi : Int)) = ((size - 1 - (1 + fi) : Nat) : Int) := by omega
 refine qd9r (fun c7 c8 => ?_) fun c7 => ?_
 ·-- show
  have e5 : (sh : Int) + 1 = ((sh + 1 : Nat) : Int) := by omega
  walk_at "dd"
  refine ⟨k + 1 + 1, 1 + fi, As ++ [.sho .none .none .none], [], Ns, sh + 1, by rw [e3, e5]; rfl, by omega, by omega, by omega, hb, by omega, R.sho _ _ _ (by omega), hlv, fun p hp => (by cases hp), by omega, fun s k' hk' ok => ?_⟩
  walk_at "dd"
  refine ⟨k', rfl, by omega, fun h hh => ?_⟩
  walk_at "dd"
  refine ⟨k' + 1, size - 1 - (1 + fi), As ++ [.sho .none .none .none], [], Ns, sh + 1, by rw [e4, e5]; rfl, by omega, by omega, by omega, hb, by omega, R.sho _ _ _ (by omega), hlv, fun p hp => (by cases hp), by omega, fun t k2 hk2 ok2 => ?_⟩
  walk_at "dd"
  obtain ⟨g1, g2, g3⟩ := qc3r hh
  refine q _ _ (by omega) (SO.two (k := .sho h s t) (if_pos g1) ?_ rfl (ok.sk (sk rfl)) (ok2.sk (sk rfl)) (by omega) (fun x hx => ?_) (by simp))
  ·show decide (shows As < 3) = true
   rw [← R.hs]; exact decide_eq_true (by omega)
  simp only [List.mem_cons, List.not_mem_nil, or_false] at hx
  rcases hx with rfl | rfl | rfl | rfl
  ·exact .inr (.inr ⟨qa1y nofun, w9 _ (by decide)⟩)
  ·exact .inr (.inr ⟨g2 _, g3⟩)
  ·exact .inl rfl
  ·exact .inr (.inl rfl)
 ·walk_at "dd"
  refine ⟨k + 1 + 1, 1 + fi, As ++ [.two "and" .none .none], F, Ns, sh, by rw [e3], by omega, by omega, by omega, hb, hsh, R.two (.inl rfl), hlv, hl9, by omega, fun s k' hk' ok => ?_⟩
  walk_at "dd"
  refine ⟨k', 2, rfl, by decide, by omega, fun r2 g2 g3 => ?_⟩
  walk_at "dd"
  refine qa2h g2 g3 fun wd hwd _ => ?_
  walk_at "dd"
  refine ⟨k' + 1, size - 1 - (1 + fi), As ++ [.two "and" .none .none], F, Ns, sh, by rw [e4], by omega, by omega, by omega, hb, hsh, R.two (.inl rfl), hlv, hl9, by omega, fun t k2 hk2 ok2 => ?_⟩
  walk_at "dd"
  obtain ⟨z, rfl, hz⟩ : ∃ z : Str, wd = .str z /\ (z = "and" ∨ z = "or") := by
   simp only [List.mem_cons, List.not_mem_nil, or_false] at hwd
   rcases hwd with rfl | rfl
   ·exact ⟨_, rfl, .inl rfl⟩
   ·exact ⟨_, rfl, .inr rfl⟩
  have hz9 : z.length <= 9 := by rcases hz with rfl | rfl <;> decide +kernel
  refine q _ _ (by omega) (SO.two (k := .two z s t) (if_pos hz) rfl rfl (ok.sk (sk rfl)) (ok2.sk (sk rfl)) (by omega) (fun x hx => ?_) (by simp))
  simp only [List.mem_cons, List.not_mem_nil, or_false] at hx
  rcases hx with rfl | rfl | rfl
  ·exact .inr (.inr ⟨qa1y nofun, hz9⟩)
  ·exact .inl rfl
  ·exact .inr (.inl rfl)
end
theorem fDiv_2 {i : Int} : fDiv (.int i) (.int 2) = some (.int (i / 2)) := by
 show (if (0 : Int) < 2 /\ (2 : Int) < 1073741824 then some (PyData.int (i / 2)) else none) = _
 rw [if_pos ⟨by decide, by decide⟩]
noncomputable def qa5n (m : Nat) : DSp := fun ls Q => ∃ n : Nat, ls = [.d (.int (n : Int))] /\ 1 <= n /\ n <= 2 ^ m /\ ∀ d : PyData, Dp (m + 2) d -> Fn 9 d -> Q (.d d) [none]
theorem qb5s {h : Nat} {a b : Str} (ha : a.length <= 9) (hb : b.length <= 9) : Dp (h + 2) (.tuple [.str a, .str b]) /\ Fn 9 (.tuple [.str a, .str b]) := by
 refine ⟨qa2m fun x hx => ?_, by simp, ha, hb, trivial⟩
 simp only [List.mem_cons, List.not_mem_nil, or_false] at hx
 rcases hx with rfl | rfl <;> exact qa1y nofun
theorem qa5o {h : Nat} {a : Str} {x y : PyData} (ha : a.length <= 9) (hx : Dp (h + 1) x /\ Fn 9 x) (hy : Dp (h + 1) y /\ Fn 9 y) : Dp (h + 2) (.tuple [.str a, x, y]) /\ Fn 9 (.tuple [.str a, x, y]) := by
 refine ⟨qa2m fun z hz => ?_, by simp, ha, hx.2, hy.2, trivial⟩
 simp only [List.mem_cons, List.not_mem_nil, or_false] at hz
 rcases hz with rfl | rfl | rfl
 ·exact qa1y nofun
 ·exact hx.1
 ·exact hy.1
theorem qd1y {h : Nat} {a : Str} {x : PyData} (ha : a.length <= 9) (hx : Dp (h + 1) x /\ Fn 9 x) : Dp (h + 2) (.tuple [.str a, x]) /\ Fn 9 (.tuple [.str a, x]) := by
 refine ⟨qa2m fun z hz => ?_, by simp, ha, hx.2, trivial⟩
 simp only [List.mem_cons, List.not_mem_nil, or_false] at hz
 rcases hz with rfl | rfl
 ·exact qa1y nofun
 ·exact hx.1
theorem qb2f {h : Nat} {a : Str} {x y z : PyData} (ha : a.length <= 9) (hx : Dp (h + 1) x /\ Fn 9 x) (hy : Dp (h + 1) y /\ Fn 9 y) (hz : Dp (h + 1) z /\ Fn 9 z) : Dp (h + 2) (.tuple [.str a, x, y, z]) /\ Fn 9 (.tuple [.str a, x, y, z]) := by
 refine ⟨qa2m fun u hu => ?_, by simp, ha, hx.2, hy.2, hz.2, trivial⟩
 simp only [List.mem_cons, List.not_mem_nil, or_false] at hu
 rcases hu with rfl | rfl | rfl | rfl
 ·exact qa1y nofun
 ·exact hx.1
 ·exact hy.1
 ·exact hz.1
theorem qb1d {i j : Nat} {d : PyData} (hij : i <= j) (h : Dp i d) : Dp j d := by
 induction hij with
 | refl => exact h
 | step _ ih => exact ih.succ
section
variable {P : Program} {w : World} {K : W.Frag} {mg : Str -> Option Value} {base : Heap} {n : Nat}
noncomputable abbrev qa2t : Stmt := top 39
theorem qb8w : FnScope ["_law_many"] ["_law_many"] (qa0h qa2t) := ⟨rfl, rfl, rfl, by decide +kernel, rfl, by decide +kernel, by decide +kernel⟩
theorem qa9k {f : Addr} {fd : FuncData} (F : Fun K "_law_broad" "_law_broad" qa2t f fd) (B : Bl mg) (qa1h : Def K mg "_law_broad" qa2t ["_law_many"] f fd) {m : Nat} (qa2f : FnOk P w K mg base CX0 n f fd ["_law_many"] (spD K (qa5n m))) : FnOk P w K mg base CX0 (n + 1) f fd ["_law_many"] (spD K (qa5n (m + 1))) := by
 refine F.dok qb8w (fun cdv A outer s H E hr ls Qd h => ?_) (fun ls Qd ⟨_, e, _⟩ => by rw [e]; rfl)
 obtain ⟨n0, rfl, h1, h2, q⟩ := h
 refine ⟨rfl, ?_⟩
 have hp : 2 ^ (m + 1) = 2 * 2 ^ m := by rw [Nat.pow_succ]; omega
 refine ⟨_, (qa0f (qa1f (qa0o (qa1e hr.units) qa1d (dv 0) qa0c (qa0m _))
  (qa0i (qa0k (qa0j (qa0a qa0d (qa0a qa0d qa0b)))))
  qa0p)
  (qa0i (qa0k (qa0j (qa0a qa0d (qa0a (qa0g [false] qa1h qa2f hr rfl (qa0a (qa0y qb4g qc2v (dv 0) qa0c) qa0b)) (qa0a (qa0g [false] qa1h qa2f hr rfl (qa0a (qa0y qa3o qa3q (dv 0) (qa0y qb4g qc2v (dv 0) qa0c)) qa0b)) qa0b))))))), ?_⟩
 walk_at "dd"
 refine qa0t (fun c => ?_) (fun c => ?_)
 ·walk_at "dd"
  obtain ⟨a, b⟩ := qb5s (h := m + 1) (a := "fact") (b := "p") (by decide +kernel) (by decide +kernel)
  exact q _ a b
 ·walk_at "dd"
  rw [fDiv_2, qa1c]
  refine ⟨n0 / 2, rfl, by omega, by omega, fun d1 a1 b1 => ?_⟩
  walk_at "dd"
  refine ⟨n0 - n0 / 2, by rw [show (n0 : Int) - (n0 : Int) / 2 = ((n0 - n0 / 2 : Nat) : Int) by omega], by omega, by omega, fun d2 a2 b2 => ?_⟩
  walk_at "dd"
  obtain ⟨a, b⟩ := qa5o (h := m + 1) (a := "and") (by decide +kernel) ⟨a1, b1⟩ ⟨a2, b2⟩
  exact q _ a b
theorem qe4v {f : Addr} {fd : FuncData} (F : Fun K "_law_broad" "_law_broad" qa2t f fd) (B : Bl mg) (qa1h : Def K mg "_law_broad" qa2t ["_law_many"] f fd) {N : DSp} (hN : ∀ ls Q, ¬ N ls Q) (qa2f : FnOk P w K mg base CX0 n f fd ["_law_many"] (spD K N)) : FnOk P w K mg base CX0 (n + 1) f fd ["_law_many"] (spD K (qa5n 0)) := by
 refine F.dok qb8w (fun cdv A outer s H E hr ls Qd h => ?_) (fun ls Qd ⟨_, e, _⟩ => by rw [e]; rfl)
 obtain ⟨n0, rfl, h1, h2, q⟩ := h
 refine ⟨rfl, ?_⟩
 have e1 : n0 = 1 := by simp at h2; omega
 subst e1
 refine ⟨_, (qa0f (qa1f (qa0o (qa1e hr.units) qa1d (dv 0) qa0c (qa0m _))
  (qa0i (qa0k (qa0j (qa0a qa0d (qa0a qa0d qa0b)))))
  qa0p)
  (qa0i (qa0k (qa0j (qa0a qa0d (qa0a (qa0g [false] qa1h qa2f hr rfl (qa0a (qa0y qb4g qc2v (dv 0) qa0c) qa0b)) (qa0a (qa0g [false] qa1h qa2f hr rfl (qa0a (qa0y qa3o qa3q (dv 0) (qa0y qb4g qc2v (dv 0) qa0c)) qa0b)) qa0b))))))), ?_⟩
 walk_at "dd"
 refine qa0t (fun c => ?_) (fun c => absurd rfl c)
 walk_at "dd"
 obtain ⟨a, b⟩ := qb5s (h := 0) (a := "fact") (b := "p") (by decide +kernel) (by decide +kernel)
 exact q _ a b
end
noncomputable def GD (d : PyData) : Prop := Dp 70 d /\ Fn 9 d
theorem qa6g {h : Nat} {d : PyData} (hh : h <= 70) (x : Dp h d /\ Fn 9 d) : GD d := ⟨qb1d hh x.1, x.2⟩
theorem ix_ab {i : Int} (h0 : 0 <= i) (h1 : i < 5) : ∃ z : Str, fIx (.str "abcde") (.int i) = some (.str z) /\ z.length <= 9 := by
 have key : ∀ (j : Nat) (c : Nat), atI (Str.ofString "abcde").cps.toList (j : Int) = some c -> fIx (.str "abcde") (.int (j : Int)) = some (.str ⟨#[c]⟩) := fun j c e => by
  show (if (Str.ofString "abcde").length <= sizeLine then (atI (Str.ofString "abcde").cps.toList (j : Int)).map (fun c => PyData.str ⟨#[c]⟩) else none) = _
  rw [if_pos (by rw [show (Str.ofString "abcde").length = 5 by decide +kernel, sizeLine_eq]; decide), e]; rfl
 obtain ⟨j, rfl⟩ : ∃ j : Nat, i = (j : Int) := ⟨i.toNat, by omega⟩
 have cj : j = 0 ∨ j = 1 ∨ j = 2 ∨ j = 3 ∨ j = 4 := by omega
 rcases cj with rfl | rfl | rfl | rfl | rfl
 ·exact ⟨_, key 0 97 (by decide +kernel), by decide⟩
 ·exact ⟨_, key 1 98 (by decide +kernel), by decide⟩
 ·exact ⟨_, key 2 99 (by decide +kernel), by decide⟩
 ·exact ⟨_, key 3 100 (by decide +kernel), by decide⟩
 ·exact ⟨_, key 4 101 (by decide +kernel), by decide⟩
theorem fMul_2 {j : Int} : fMul (.int 2) (.int j) = some (.int (2 * j)) := by
 show (if (big64 2 || big64 j) = true then some (PyData.int (2 * j)) else none) = _
 rw [if_pos (by rw [show big64 2 = true by decide]; rfl)]
noncomputable def spTow : DSp := fun ls Q => ∃ k : Nat, ls = [.tape k] /\ k < 900000 /\ ∀ (ds : List PyData) (k' : Nat), k' <= k + 30 -> ds.length <= 100 -> (∀ d ∈ ds, GD d) -> Q (.d (.list ds)) [some (.tape k')]
section
variable {P : Program} {w : World} {K : W.Frag} {mg : Str -> Option Value} {base : Heap} {n : Nat}
noncomputable abbrev qa3r : Stmt := top 40
theorem qa0v : FnScope ["_law_tape", "_law_found", "_law_many", "_law_tower", "_law_k", "_law_deep", "_law_shows", "_law_pair", "_law_name", "_law_amid", "_law_alone", "_law_through"] ["_law_tape"] (qa0h qa3r) := ⟨rfl, rfl, rfl, by decide +kernel, rfl, by decide +kernel, by decide +kernel⟩
theorem ok_tow {f f1 f2 : Addr} {fd fd1 fd2 : FuncData} (F : Fun K "_law_towers" "_law_towers" qa3r f fd) (B : Bl mg) (qa0l : qb2w K mg f1 fd1) (qa0q : qb2v P w K mg base n f1 fd1)
  (qa1h : Def K mg "_law_broad" qa2t ["_law_many"] f2 fd2) (qa2f : FnOk P w K mg base CX0 n f2 fd2 ["_law_many"] (spD K (qa5n 6))) : FnOk P w K mg base CX0 (n + 1) f fd ["_law_tape"] (spD K spTow) := by
 refine F.dok qa0v (fun cdv A outer s H E hr ls Qd h => ?_) (fun ls Qd ⟨_, e, _⟩ => by rw [e]; rfl)
 obtain ⟨k, rfl, hk, q⟩ := h
 refine ⟨rfl, ?_⟩
 have sl := sizeLine_eq
 have fp : ∀ h : Nat, Dp (h + 2) (.tuple [.str "fact", .str "p"]) /\ Fn 9 (.tuple [.str "fact", .str "p"]) := fun h => qb5s (by decide +kernel) (by decide +kernel)
 refine ⟨_, (qa0f (qb4o (i := 1) qa0v.nd rfl (Or.inl rfl) (qa1k (qa0a (qa0g [false] qa1h qa2f hr rfl (qa0a qa0c qa0b)) (qa0a (qa0g [false] qa1h qa2f hr rfl (qa0a qa0c qa0b)) (qa0a (qa0j (qa0a qa0d (qa0a qa0d (qa0a (qa0g [false] qa1h qa2f hr rfl (qa0a qa0c qa0b)) qa0b)))) (qa0a (qa0j (qa0a qa0d (qa0a qa0d (qa0a (qa0j (qa0a qa0d (qa0a (qa0g [false] qa1h qa2f hr rfl (qa0a qa0c qa0b)) qa0b))) qa0b)))) qa0b))))))
  (qa0f (qb4o (i := 1) qa0v.nd rfl (Or.inl rfl) (df_op qc8o ad_cat (dv 1) (qa1m (qa1k (qa0a (qa0j (qa0a qa0d (qa0a (qa0j (qa0a qa0d qa0b)) (qa0a (qa0g [false] qa1h qa2f hr rfl (qa0a qa0c qa0b)) (qa0a (qa0g [false] qa1h qa2f hr rfl (qa0a (qa0y qa0u qa1n qa0c (qa0g [true, false] qa0l qa0q hr rfl (qa0a (dv 0) (qa0a qa0c qa0b)))) qa0b)) qa0b))))) qa0b)))))
  (qa0f (qb4o (i := 1) qa0v.nd rfl (Or.inl rfl) (df_op qc8o ad_cat (dv 1) (qa1m (qa1k (qa0a (qa0j (qa0a (qa1m (qa1k (qa0a qa0d qa0b))) (qa0a qa0d qa0b))) (qa0a (qa0j (qa0a qd9w (qa0a qa0d qa0b))) (qa0a (qa0j (qa0a (qa0j qa0b) (qa0a qa0d qa0b))) (qa0a (qa0j (qa0a qa0d (qa0a (qa0j (qa0a qd9w qa0b)) (qa0a (qa0j (qa0a qa0d (qa0a qa0d qa0b))) qa0b)))) qa0b))))))))
  (qa0f (qa7z PassesOwn.never rfl (qa6b (qa0j (qa0a qa0c (qa0a qa0c (qa0a qa0c (qa0a qa0c qa0b)))))) (qa1u (i := 2) qa0v.nd rfl (Or.inl rfl))
  (qa0f (qa1g (i := 3) qa0v.nd rfl (Or.inl rfl) (qa0j (qa0a qa0d (qa0a qa0d qa0b))))
  (qa0f (qa7z PassesOwn.never rfl (qa7n rfl B.range_ (qa0y qa3o qa3q (dv 2) qa0c)) (qa1u (i := 4) qa0v.nd rfl (Or.inl rfl))
  (qa0i (qa1g (i := 3) qa0v.nd rfl (Or.inl rfl) (qa0j (qa0a qa0d (qa0a (dv 3) qa0b))))))
  (qa0i (qc4j (qe3w 1 rfl (dv 3)))))))
  (qa0f (qa1g (i := 5) qa0v.nd rfl (Or.inl rfl) (qa0y qa0u qa1n qa0c (qa0g [true, false] qa0l qa0q hr rfl (qa0a (dv 0) (qa0a qa0c qa0b)))))
  (qa0f (qa1g (i := 3) qa0v.nd rfl (Or.inl rfl) (qa0j (qa0a qa0d (qa0a (qa0r qa0n qa0s qa0d (qa0g [true, false] qa0l qa0q hr rfl (qa0a (dv 0) (qa0a (dv 5) qa0b))) (fun _ _ => rfl)) qa0b))))
  (qa0f (qa7z PassesOwn.never rfl (qa7n rfl B.range_ (qa0y qa0u qa1n (qa0y qe3p ad_mul qa0c (qa0g [true, false] qa0l qa0q hr rfl (qa0a (dv 0) (qa0a qa0c qa0b)))) (qa0g [true, false] qa0l qa0q hr rfl (qa0a (dv 0) (qa0a qa0c qa0b))))) (qa1u (i := 4) qa0v.nd rfl (Or.inl rfl))
  (qa0i (qa1g (i := 3) qa0v.nd rfl (Or.inl rfl) (qa0j (qa0a qa0d (qa0a (dv 3) qa0b))))))
  (qa0f (qa7z PassesOwn.never rfl (qa7n rfl B.range_ (dv 5)) (qa1u (i := 4) qa0v.nd rfl (Or.inl rfl))
  (qa0i (qa1g (i := 3) qa0v.nd rfl (Or.inl rfl) (qa0j (qa0a (qa0r qa0n qa0s (qa1m (qa1k (qa0a qa0d (qa0a qa0d qa0b)))) (qa0g [true, false] qa0l qa0q hr rfl (qa0a (dv 0) (qa0a qa0c qa0b))) (fun _ _ => rfl)) (qa0a (qa0r qa0n qa0s qa0d (qa0y qa3o qa3q (qa0y qa3o qa3q (dv 5) qa0c) (dv 4)) (fun _ _ => rfl)) (qa0a (dv 3) qa0b)))))))
  (qa0f (qa1g (i := 6) qa0v.nd rfl (Or.inl rfl) (qa0j (qa0a qa0d (qa0a qa0d qa0b))))
  (qa0f (qa7z PassesOwn.never rfl (qa7n rfl B.range_ (qa0y qa0u qa1n qa0c (qa0g [true, false] qa0l qa0q hr rfl (qa0a (dv 0) (qa0a qa0c qa0b))))) (qa1u (i := 4) qa0v.nd rfl (Or.inl rfl))
  (qa0f (qb4o (i := 7) qa0v.nd rfl (Or.inl rfl) (qa1k (qa0a (dv 6) (qa0a (qa0j (qa0a qa0d (qa0a qa0d qa0b))) qa0b))))
  (qa0f (qa1f (qa0o (qa1e hr.units) qa1d (qa0g [true, false] qa0l qa0q hr rfl (qa0a (dv 0) (qa0a qa0c qa0b))) qa0c (qa0m _))
  (qa0i (qc4j (qe1f 7 rfl)))
  qa0p)
  (qa0i (qa1g (i := 6) qa0v.nd rfl (Or.inl rfl) (qa0j (qa0a qa0d (qa0a (qa0j (qa0a qa0d qa0b)) (qa0a (qa0r qa0n qa0s (dv 7) qa0c (fun _ _ => rfl)) (qa0a (qa0r qa0n qa0s (dv 7) qa0c (fun _ _ => rfl)) qa0b))))))))))
  (qa0f (qa1g (i := 8) qa0v.nd rfl (Or.inl rfl) (qa0r qa0n qa0s (qa1m (qa1k (qa0a qa0d (qa0a qa0d qa0b)))) (qa0g [true, false] qa0l qa0q hr rfl (qa0a (dv 0) (qa0a qa0c qa0b))) (fun _ _ => rfl)))
  (qa0f (qa1g (i := 9) qa0v.nd rfl (Or.inl rfl) (qa0j (qa0a qa0d (qa0a (dv 8) (qa0a (qa0j (qa0a qa0d (qa0a (qa0j (qa0a qa0d (qa0a (dv 8) qa0b))) (qa0a (qa0j (qa0a qa0d (qa0a qa0d qa0b))) qa0b)))) qa0b)))))
  (qa0f (qa1g (i := 10) qa0v.nd rfl (Or.inl rfl) (qa0j (qa0a qa0d (qa0a (dv 8) (qa0a (qa0j (qa0a qa0d (qa0a (qa0j (qa0a qa0d qa0b)) (qa0a (qa0j (qa0a qa0d (qa0a qa0d qa0b))) (qa0a (qa0j (qa0a qa0d (qa0a (dv 8) qa0b))) qa0b))))) qa0b)))))
  (qa0f (qa1g (i := 11) qa0v.nd rfl (Or.inl rfl) (qa0j (qa0a qa0d (qa0a qa0d (qa0a (qa0j (qa0a qa0d (qa0a (qa0j (qa0a qa0d qa0b)) (qa0a (qa0j (qa0a qa0d (qa0a (dv 8) (qa0a (qa0j (qa0a qa0d (qa0a (dv 8) qa0b))) qa0b)))) (qa0a (qa0j (qa0a qa0d (qa0a qa0d qa0b))) qa0b))))) qa0b)))))
  (qa0i (qa0k (qa0y qa0u qa1n (dv 1) (qa1m (qa1k (qa0a (dv 3) (qa0a (dv 6) (qa0a (qa0j (qa0a qa0d (qa0a qa0d (qa0a (dv 9) qa0b)))) (qa0a (dv 9) (qa0a (dv 10) (qa0a (dv 11) (qa0a (qa0j (qa0a qa0d (qa0a qa0d (qa0a (qa0j (qa0a qa0d (qa0a (dv 9) (qa0a (dv 6) qa0b)))) qa0b)))) qa0b)))))))))))))))))))))))))), ?_⟩
 walk_at "dd"
 refine ⟨30, rfl, by decide, by decide, fun b1 a1 n1 => ?_⟩
 walk_at "dd"
 refine ⟨31, rfl, by decide, by decide, fun b2 a2 n2 => ?_⟩
 walk_at "dd"
 refine ⟨30, rfl, by decide, by decide, fun b3 a3 n3 => ?_⟩
 walk_at "dd"
 refine ⟨30, rfl, by decide, by decide, fun b4 a4 n4 => ?_⟩
 walk_at "dd"
 refine ⟨15, rfl, by decide, by decide, fun b5 a5 n5 => ?_⟩
 walk_at "dd"
 refine ⟨k, 3, rfl, by decide, by omega, fun r0 g0 g1 => ?_⟩
 walk_at "dd"
 obtain ⟨m0, rfl⟩ : ∃ m0 : Nat, r0 = (m0 : Int) := ⟨r0.toNat, by omega⟩
 refine ⟨14 + m0, by rw [show (14 : Int) + (m0 : Int) = ((14 + m0 : Nat) : Int) by omega], by omega, (by have : (2 : Nat) ^ 6 = 64 := rfl; omega), fun b6 a6 n6 => ?_⟩
 refine qa9g rfl ?_
 walk_at "dd"
 refine qa9g rfl ?_
 have ha : Dp 8 (.tuple [.str "a"]) /\ Fn 9 (.tuple [.str "a"]) := ⟨qa9h (ss := ["a"]) (h := 6), qa9i (ss := ["a"]) (by decide) (by decide +kernel)⟩
 have hstr : ∀ (z : Str) (h : Nat), z.length <= 9 -> Dp (h + 1) (.str z) /\ Fn 9 (.str z) := fun z h hz => ⟨qa1y nofun, hz⟩
 have g1' : GD b1 := qa6g (by decide) ⟨a1, n1⟩
 have g2' : GD b2 := qa6g (by decide) ⟨a2, n2⟩
 have g3' := qa5o (h := 7) (a := "least") (x := .str "x") (y := b3) (by decide +kernel) (hstr _ _ (by decide +kernel)) ⟨a3, n3⟩
 have g4' := qd1y (h := 7) (a := "not") (x := b4) (by decide +kernel) ⟨a4, n4⟩
 have g4'' := qa5o (h := 8) (a := "most") (x := .str "x") (by decide +kernel) (hstr _ _ (by decide +kernel)) g4'
 have g5' := qb2f (h := 7) (a := "show") (by decide +kernel) ha ⟨a5, n5⟩ ⟨a6, n6⟩
 have hL : ∀ d ∈ [b1, b2, PyData.tuple [.str "least", .str "x", b3], .tuple [.str "most", .str "x", .tuple [.str "not", b4]], .tuple [.str "show", .tuple [.str "a"], b5, b6], .tuple [.list [.str "fact"], .str "p"], .tuple [.dict [], .str "p"], .tuple [.tuple [], .str "p"], .tuple [.str "some", .tuple [.dict []], .tuple [.str "fact", .str "p"]]], GD d := by
  intro d hd
  simp only [List.mem_cons, List.not_mem_nil, or_false] at hd
  rcases hd with rfl | rfl | rfl | rfl | rfl | rfl | rfl | rfl | rfl
  ·exact g1'
  ·exact g2'
  ·exact qa6g (by decide) g3'
  ·exact qa6g (by decide) g4''
  ·exact qa6g (by decide) g5'
  ·refine ⟨qa2m fun x hx => ?_, by simp, trivial, (show (Str.ofString "p").length <= 9 by decide +kernel), trivial⟩
   simp only [List.mem_cons, List.not_mem_nil, or_false] at hx
   rcases hx with rfl | rfl <;> exact qa1y nofun
  ·refine ⟨qa2m fun x hx => ?_, by simp, trivial, (show (Str.ofString "p").length <= 9 by decide +kernel), trivial⟩
   simp only [List.mem_cons, List.not_mem_nil, or_false] at hx
   rcases hx with rfl | rfl <;> exact qa1y nofun
  ·refine ⟨qa2m fun x hx => ?_, by simp, ⟨by simp, trivial⟩, (show (Str.ofString "p").length <= 9 by decide +kernel), trivial⟩
   simp only [List.mem_cons, List.not_mem_nil, or_false] at hx
   rcases hx with rfl | rfl
   ·exact qa2m fun x hx => by simp at hx
   ·exact qa1y nofun
  ·refine qa6g (h := 9) (by decide) (qa5o (h := 7) (by decide +kernel) ⟨qa2m fun x hx => ?_, by simp, trivial, trivial⟩ (fp 6))
   rw [List.mem_singleton.mp hx]; exact qa1y nofun
 simp only [List.cons_append, List.nil_append]
 have hLl : [b1, b2, PyData.tuple [.str "least", .str "x", b3], .tuple [.str "most", .str "x", .tuple [.str "not", b4]], .tuple [.str "show", .tuple [.str "a"], b5, b6], .tuple [.list [.str "fact"], .str "p"], .tuple [.dict [], .str "p"], .tuple [.tuple [], .str "p"], .tuple [.str "some", .tuple [.dict []], .tuple [.str "fact", .str "p"]]].length = 9 := rfl
 revert hL hLl
 generalize [b1, b2, PyData.tuple [.str "least", .str "x", b3], .tuple [.str "most", .str "x", .tuple [.str "not", b4]], .tuple [.str "show", .tuple [.str "a"], b5, b6], .tuple [.list [.str "fact"], .str "p"], .tuple [.dict [], .str "p"], .tuple [.tuple [], .str "p"], .tuple [.str "some", .tuple [.dict []], .tuple [.str "fact", .str "p"]]] = L0
 intro hL hLl
 walk_at "dd"
 refine qa5x (fun i ρ => ∃ (ds : List PyData) (v2 v3 v4 : Option L), ρ = [some (.tape (k + 1)), some (.own ds), v2, v3, v4, none, none, none, none, none, none, none] /\ ds.length = 9 + i /\ i <= 4 /\ ∀ d ∈ ds, GD d) ⟨L0, none, none, none, rfl, by omega, by omega, hL⟩ ?_ ?_
 ·rintro i x ρ N hx ⟨ds, v2, v3, v4, rfl, hdl, hi, hds⟩ hN
  obtain ⟨mm, rfl, hm1, hm2, hi4⟩ : ∃ mm : Nat, x = .int (mm : Int) /\ 58 <= mm /\ mm <= 61 /\ i < 4 := by
   match i, hx with
   | 0, hx => cases hx; exact ⟨58, rfl, by omega, by omega, by omega⟩
   | 1, hx => cases hx; exact ⟨59, rfl, by omega, by omega, by omega⟩
   | 2, hx => cases hx; exact ⟨60, rfl, by omega, by omega, by omega⟩
   | 3, hx => cases hx; exact ⟨61, rfl, by omega, by omega, by omega⟩
   | i + 4, hx => simp at hx
  walk_at "dd"
  refine ⟨⟨by omega, by omega⟩, ?_⟩
  rw [show ((mm : Int) - 1).toNat = mm - 1 by omega]
  refine qa5x (fun j ρ => ∃ (d : PyData) (v4 : Option L), ρ = [some (.tape (k + 1)), some (.own ds), some (.d (.int (mm : Int))), some (.d d), v4, none, none, none, none, none, none, none] /\ (Dp (j + 2) d /\ Fn 9 d) /\ j <= mm - 1) ⟨_, v4, rfl, fp 0, by omega⟩ ?_ ?_
  ·rintro j y ρ N2 hy ⟨d, v4', rfl, hd, hj⟩ hN2
   have hj2 : j < mm - 1 := by
    have := (List.getElem?_eq_some_iff.mp hy).1
    simpa [rngD] using this
   walk_at "dd"
   exact hN2 _ ⟨_, _, rfl, qd1y (h := j + 1) (by decide +kernel) hd, by omega⟩
  ·rintro ρ ⟨d, v4', rfl, hd, hj⟩
   have hrl : (rngD 0 (mm - 1)).length = mm - 1 := by simp [rngD]
   rw [hrl] at hd hj
   walk_at "dd"
   refine ⟨by omega, ?_⟩
   walk_at "dd"
   refine hN _ ⟨ds ++ [d], _, _, _, rfl, by rw [List.length_append]; show _ + 1 = _; omega, by omega, fun z hz => ?_⟩
   rcases List.mem_append.mp hz with hz | hz
   ·exact hds z hz
   ·rw [List.mem_singleton.mp hz]; exact qa6g (by omega) hd
 rintro ρ ⟨ds, v2, v3, v4, rfl, hdl, _, hds⟩
 have hdl : ds.length = 13 := hdl
 walk_at "dd"
 refine ⟨k + 1, 5, rfl, by decide, by omega, fun r1 g2 g3 => ?_⟩
 obtain ⟨dp, rfl⟩ : ∃ dp : Nat, r1 = (dp : Int) := ⟨r1.toNat, by omega⟩
 walk_at "dd"
 refine ⟨k + 2, 1 + (dp : Int), rfl, by omega, by omega, fun r2 g4 g5 => ?_⟩
 obtain ⟨z1, ez1, lz1⟩ := ix_ab (i := r2) g4 (by omega)
 walk_at "dd"
 refine qa9g ez1 ?_
 walk_at "dd"
 refine ⟨k + 3, 2, rfl, by decide, by omega, fun r3 g6 g7 => ?_⟩
 walk_at "dd"
 rw [fMul_2, qa1c]
 refine ⟨k + 4, 2, rfl, by decide, by omega, fun r4 g8 g9 => ?_⟩
 walk_at "dd"
 refine ⟨⟨by omega, by omega⟩, ?_⟩
 obtain ⟨na, hna, hna3⟩ : ∃ na : Nat, (2 * r3 + r4).toNat = na /\ na <= 3 := ⟨_, rfl, by omega⟩
 rw [hna]
 have hrl : ∀ m : Nat, (rngD 0 m).length = m := fun m => by simp [rngD]
 have hrx : ∀ {m j : Nat} {y : PyData}, (rngD 0 m)[j]? = some y -> j < m /\ y = .int (j : Int) := fun {m j y} hy => by
  have ha : j < m := by
   have := (List.getElem?_eq_some_iff.mp hy).1
   simpa [rngD] using this
  refine ⟨ha, ?_⟩
  simp only [rngD, List.getElem?_map, List.getElem?_range ha, Option.map_some] at hy
  have := (Option.some.inj hy).symm
  rw [this]; congr 1; omega
 refine qa5x (fun j ρ => ∃ (d : PyData) (v4 : Option L), ρ = [some (.tape (k + 5)), some (.own ds), v2, some (.d d), v4, some (.d (.int (1 + (dp : Int)))), none, none, none, none, none, none] /\ (Dp (j + 2) d /\ Fn 9 d) /\ j <= 3) ⟨_, _, rfl, qb5s (h := 0) (by decide +kernel) lz1, by omega⟩ ?_ ?_
 ·rintro j y ρ N2 hy ⟨d, v4', rfl, hd, hj⟩ hN2
  obtain ⟨hj2, rfl⟩ := hrx hy
  walk_at "dd"
  exact hN2 _ ⟨_, _, rfl, qd1y (h := j + 1) (by decide +kernel) hd, by omega⟩
 rintro ρ ⟨dA, v4A, rfl, hdA, _⟩
 rw [hrl] at hdA
 have hdA : Dp 5 dA /\ Fn 9 dA := ⟨qb1d (by omega) hdA.1, hdA.2⟩
 walk_at "dd"
 refine ⟨⟨by omega, by omega⟩, ?_⟩
 rw [show (1 + (dp : Int)).toNat = 1 + dp by omega]
 refine qa5x (fun j ρ => ∃ (d : PyData) (v4 : Option L) (k' : Nat), ρ = [some (.tape k'), some (.own ds), v2, some (.d d), v4, some (.d (.int (1 + (dp : Int)))), none, none, none, none, none, none] /\ (Dp (j + 5) d /\ Fn 9 d) /\ k' = k + 5 + j /\ j <= 5) ⟨_, _, _, rfl, hdA, rfl, by omega⟩ ?_ ?_
 ·rintro j y ρ N2 hy ⟨d, v4', k', rfl, hd, hk', hj⟩ hN2
  obtain ⟨hj2, rfl⟩ := hrx hy
  walk_at "dd"
  refine ⟨k', 2, rfl, by decide, by omega, fun r5 p0 p1 => ?_⟩
  walk_at "dd"
  refine qa2h p0 (by simpa using p1) fun wd hwd _ => ?_
  obtain ⟨z, rfl, hz9⟩ : ∃ z : Str, wd = .str z /\ z.length <= 9 := by
   simp only [List.mem_cons, List.not_mem_nil, or_false] at hwd
   rcases hwd with rfl | rfl
   ·exact ⟨_, rfl, by decide +kernel⟩
   ·exact ⟨_, rfl, by decide +kernel⟩
  obtain ⟨z2, ez2, lz2⟩ := ix_ab (i := 1 + (dp : Int) - 1 - (j : Int)) (by omega) (by omega)
  refine qa9g ez2 ?_
  walk_at "dd"
  exact hN2 _ ⟨_, _, _, rfl, qa5o (h := j + 4) hz9 ⟨qa1y nofun, lz2⟩ hd, by omega, by omega⟩
 rintro ρ ⟨dB, v4B, kB, rfl, hdB, hkB, _⟩
 rw [hrl] at hdB hkB
 walk_at "dd"
 refine ⟨kB, 3, rfl, by decide, by omega, fun r6 p2 p3 => ?_⟩
 walk_at "dd"
 refine ⟨⟨by omega, by omega⟩, ?_⟩
 obtain ⟨nb, hnb, hnb4⟩ : ∃ nb : Nat, (2 + r6).toNat = nb /\ nb <= 4 := ⟨_, rfl, by omega⟩
 rw [hnb]
 refine qa5x (fun j ρ => ∃ (d : PyData) (v4 v7 : Option L) (k' : Nat), ρ = [some (.tape k'), some (.own ds), v2, some (.d dB), v4, some (.d (.int (1 + (dp : Int)))), some (.d d), v7, none, none, none, none] /\ (Dp (j + 8) d /\ Fn 9 d) /\ k' = kB + 1 + j /\ j <= 4) ⟨_, _, _, _, rfl, qb5s (h := 6) (by decide +kernel) (by decide +kernel), rfl, by omega⟩ ?_ ?_
 ·rintro j y ρ N2 hy ⟨d, v4', v7, k', rfl, hd, hk', hj⟩ hN2
  obtain ⟨hj2, rfl⟩ := hrx hy
  have ha' : Dp (j + 8) (.tuple [.str "a"]) /\ Fn 9 (.tuple [.str "a"]) := ⟨qb1d (by omega) ha.1, ha.2⟩
  have fp' := fp (j + 6)
  walk_at "dd"
  refine ⟨k', 2, rfl, by decide, by omega, fun r5 p0 p1 => ?_⟩
  walk_at "dd"
  refine qa0t (fun c => ?_) (fun c => ?_)
  ·walk_at "dd"
   simp only [List.reverse_cons, List.reverse_nil, List.nil_append, List.cons_append]
   walk_at "dd"
   exact hN2 _ ⟨_, _, _, _, rfl, qb2f (h := j + 7) (by decide +kernel) ha' fp' hd, by omega, by omega⟩
  ·walk_at "dd"
   exact hN2 _ ⟨_, _, _, _, rfl, qb2f (h := j + 7) (by decide +kernel) ha' hd fp', by omega, by omega⟩
 rintro ρ ⟨dC', v4C, v7C, kC, rfl, hdC, hkC, _⟩
 rw [hrl] at hdC hkC
 walk_at "dd"
 refine ⟨kC, 2, rfl, by decide, by omega, fun r7 p4 p5 => ?_⟩
 walk_at "dd"
 refine qa2h p4 (by simpa using p5) fun wd hwd _ => ?_
 obtain ⟨z, rfl, hz9⟩ : ∃ z : Str, wd = .str z /\ z.length <= 9 := by
  simp only [List.mem_cons, List.not_mem_nil, or_false] at hwd
  rcases hwd with rfl | rfl
  ·exact ⟨_, rfl, by decide +kernel⟩
  ·exact ⟨_, rfl, by decide +kernel⟩
 walk_at "dd"
 rw [qb1w (by rw [hdl]; show 13 + 7 <= _; omega), qa1c]
 walk_at "dd"
 have x9 : (Str.ofString "x").length <= 9 := by decide +kernel
 have tB : Dp 20 dB /\ Fn 9 dB := ⟨qb1d (by omega) hdB.1, hdB.2⟩
 have tC' : Dp 20 dC' /\ Fn 9 dC' := ⟨qb1d (by omega) hdC.1, hdC.2⟩
 have wz : ∀ h : Nat, Dp (h + 2) (.tuple [.str "wish", .str z]) /\ Fn 9 (.tuple [.str "wish", .str z]) := fun h => qb5s (by decide +kernel) hz9
 have wx : ∀ h : Nat, Dp (h + 2) (.tuple [.str "wish", .str "x"]) /\ Fn 9 (.tuple [.str "wish", .str "x"]) := fun h => qb5s (by decide +kernel) x9
 have am := qa5o (h := 4) (a := "least") (by decide +kernel) (hstr z 4 hz9) (qa5o (h := 3) (a := "or") (by decide +kernel) (wz 2) (wx 2))
 have ha3 : Dp 8 (.tuple [.str "a"]) /\ Fn 9 (.tuple [.str "a"]) := ha
 have al := qa5o (h := 8) (a := "most") (by decide +kernel) (hstr z 8 hz9) (qb2f (h := 7) (a := "show") (by decide +kernel) ha3 (fp 6) (wz 6))
 have th := qa5o (h := 8) (a := "least") (by decide +kernel) (hstr "x" 8 x9) (qb2f (h := 7) (a := "show") (by decide +kernel) ha3 (qa5o (h := 6) (a := "most") (by decide +kernel) (hstr z 6 hz9) (wz 5)) (fp 6))
 have am20 : Dp 20 _ /\ Fn 9 _ := ⟨qb1d (by omega) am.1, am.2⟩
 have l1 := qa5o (h := 19) (a := "least") (by decide +kernel) (hstr "x" 19 x9) am20
 have l2 := qa5o (h := 20) (a := "least") (by decide +kernel) (hstr "x" 20 x9) (qa5o (h := 19) (a := "and") (by decide +kernel) am20 tC')
 refine q _ kC.succ (by omega) (by rw [List.length_append, hdl]; show 13 + 7 <= 100; decide) fun d hd => ?_
 rcases List.mem_append.mp hd with hd | hd
 ·exact hds d hd
 ·simp only [List.mem_cons, List.not_mem_nil, or_false] at hd
  rcases hd with rfl | rfl | rfl | rfl | rfl | rfl | rfl
  ·exact qa6g (by decide) tB
  ·exact qa6g (by decide) tC'
  ·exact qa6g (by decide) l1
  ·exact qa6g (by decide) am
  ·exact qa6g (by decide) al
  ·exact qa6g (by decide) th
  ·exact qa6g (by decide) l2
end
noncomputable def GL (d : PyData) : Prop := Dp 80 d /\ Fn 100 d
theorem GD.gl {d : PyData} (h : GD d) : GL d := ⟨qb1d (by omega) h.1, h.2.up (by omega)⟩
section
variable {P : Program} {w : World} {K : W.Frag} {mg : Str -> Option Value} {base : Heap} {n : Nat}
noncomputable abbrev qb1e : Stmt := top 41
theorem qb0c : FnScope ["_law_script", "_law_tape", "_law_some", "_law_k", "_law_sentence_here", "_law_thing", "_law_told"] ["_law_script"] (qa0h qb1e) := ⟨rfl, rfl, rfl, by decide +kernel, rfl, by decide +kernel, by decide +kernel⟩
theorem ok_law {f f1 f2 f3 f4 f5 f6 : Addr} {fd fd1 fd2 fd3 fd4 fd5 fd6 : FuncData} (F : Fun K "law" "law" qb1e f fd) (B : Bl mg) (qa0l : qb2w K mg f1 fd1) (qa0q : qb2v P w K mg base n f1 fd1)
  (qb2g : Def K mg "_law_towers" qa3r ["_law_tape"] f2 fd2) (qd1z : FnOk P w K mg base CX0 n f2 fd2 ["_law_tape"] (spD K spTow))
  (qa1r : Def K mg "_law_sentence" qa2j ["_law_tape", "_law_size", "_law_free", "_law_binders", "_law_shows"] f3 fd3) (qa2k : FnOk P w K mg base CX0 n f3 fd3 ["_law_tape", "_law_size", "_law_free", "_law_binders", "_law_shows"] (spD K (spSen 24)))
  (qa4z : Def K mg "_law_bent" qa4c ["_law_tape", "_law_thing"] f4 fd4) (qa8f : FnOk P w K mg base CX0 n f4 fd4 ["_law_tape", "_law_thing"] (spD K (qc3p 30)))
  (d_is_sentence : Def K mg "is_sentence" qa3i ["thing"] f5 fd5) (g_is_sentence : FnOk P w K mg base CX0 n f5 fd5 ["thing"] (spD K qd1r))
  (qa5j : Def K mg "_law_is_sentence" qa2a ["_law_thing"] f6 fd6) (qb0w : FnOk P w K mg base CX0 n f6 fd6 ["_law_thing"] (spD K (qc4v 80))) : FnOk P w K mg base CX0 (n + 1) f fd ["_law_script"] (spLaw K) := by
 refine F.law qb0c (fun cdv A outer s H E hr => ?_)
 have sl := sizeLine_eq
 refine ⟨_, _, rfl, qb1m (i := 1) qb0c.nd rfl (Or.inr rfl) (pe_lst (qa2g (pv 0) (qa2g qa2q qa5k))), _, (qa0f (qa1g (i := 2) qb0c.nd rfl (Or.inl rfl) (qa0g [true] qb2g qd1z hr rfl (qa0a (dv 1) qa0b)))
  (qa0f (qa7z PassesOwn.never rfl (qa7n rfl B.range_ qa0c) (qa1u (i := 3) qb0c.nd rfl (Or.inl rfl))
  (qa0f (qa1g (i := 4) qb0c.nd rfl (Or.inr rfl) (qa0g [true, false, false, false, false] qa1r qa2k hr rfl (qa0a (dv 1) (qa0a (qa0y qa0u qa1n qa0c (qa0g [true, false] qa0l qa0q hr rfl (qa0a (dv 1) (qa0a qa0c qa0b)))) (qa0a (qa1m (qa1k qa0b)) (qa0a qa0c (qa0a qa0c qa0b)))))))
  (qa0f (qa1f (DW.toT (qa3u (qa0o op_notB ad_notB (qa0g [false] d_is_sentence g_is_sentence hr rfl (qa0a (dv 4) qa0b)) qa2v (qa0m _)) (qa4q (qa3b (qa2b (qa0g [false] qa5j qb0w hr rfl (qa0a (dv 4) qa0b)))))))
  (qa0i (qa0k qa2v))
  qa0p)
  (qa0i (qa1g (i := 2) qb0c.nd rfl (Or.inl rfl) (qa0y qa0u qa1n (qa0y qa0u qa1n (dv 2) (qa1m (qa6v ["_law_turn"] [("_law_tape", 1), ("_law_sentence_here", 4)] rfl (by rfl) (by decide +kernel) (qa7n rfl B.range_ qa0c) (fun _ _ _ => (qa1u (i := 0) (show (["_law_turn", "_law_tape", "_law_sentence_here"] : List Str).Nodup by decide +kernel) rfl (Or.inl rfl))) (fun _ _ _ => qa7o) (fun _ _ _ => (qa0g [true, false] qa4z qa8f hr rfl (qa0a (dv 1) (qa0a (dv 2) qa0b))))))) (qa1m (qa1k (qa0a (qa0g [true, false] qa4z qa8f hr rfl (qa0a (dv 1) (qa0a (qa0g [true, false] qa4z qa8f hr rfl (qa0a (dv 1) (qa0a (dv 4) qa0b))) qa0b))) qa0b)))))))))
  (qa0f (qa7z PassesOwn.never rfl (qa6b (qa0y qa0u qa1n (dv 2) (qa1m (qa1k (qa0a qb8h (qa0a (qa0j qa0b) (qa0a qa0d (qa0a (qa1m (qa1k (qa0a qa0d (qa0a qa0d qa0b)))) (qa0a (qa0j (qa0a qa0d qa0b)) (qa0a (qe6q "fact" "p" (qe6e qc8e qc8e pps_nil)) (qa0a (qa0j (qa0a qa0d (qa0a qa0d qa0b))) (qa0a (qa0j (qa0a (qa0j (qa0a qa0d (qa0a qa0d qa0b))) qa0b)) qa0b)))))))))))) (qa1u (i := 5) qb0c.nd rfl (Or.inl rfl))
  (qa0f (qa1g (i := 6) qb0c.nd rfl (Or.inl rfl) (qa0g [false] d_is_sentence g_is_sentence hr rfl (qa0a (dv 5) qa0b)))
  (qa0i (qa1f (DW.toT (qa3u (qa3b (qa2b (qa4r rfl B.isinstance_ rfl B.bool_ qd8h rfl (dv 6)))) (qa4q (qa0o (qc3b hr.units) qc3a (dv 6) (qa0g [false] qa5j qb0w hr rfl (qa0a (dv 5) qa0b)) (qa0m _)))))
  (qa0i (qa0k qa2v))
  qa0p))))
  (qa0i (qa0k qa2v))))), ?_⟩
 walk_at "dd"
 refine ⟨0, rfl, by omega, fun L0 k0 hk0 hl0 hL0 => ?_⟩
 walk_at "dd"
 refine ⟨⟨by decide, by decide⟩, ?_⟩
 refine qa5x (fun i ρ => ∃ (k : Nat) (ds : List PyData) (v3 v4 : Option L), ρ = [some .scr, some (.tape k), some (.d (.list ds)), v3, v4, none, none] /\ k <= 30 + 1000 * i /\ i <= 8 /\ ds.length <= 100 + 5 * i /\ ∀ d ∈ ds, GL d) ⟨k0, L0, none, none, rfl, by omega, by omega, by omega, fun d hd => (hL0 d hd).gl⟩ ?_ ?_
 ·rintro i u ρ N hu ⟨k, ds, v3, v4, rfl, hk, hi, hdl, hds⟩ hN
  have hi2 : i < 8 := by
   have := (List.getElem?_eq_some_iff.mp hu).1
   simpa [rngD] using this
  walk_at "dd"
  refine ⟨k, 24, rfl, by decide, by omega, fun r0 g0 g1 => ?_⟩
  obtain ⟨m0, rfl⟩ : ∃ m0 : Nat, r0 = (m0 : Int) := ⟨r0.toNat, by omega⟩
  walk_at "dd"
  refine ⟨k + 1, 1 + m0, [], [], [], 0, by rw [show (1 : Int) + (m0 : Int) = ((1 + m0 : Nat) : Int) by omega]; rfl, by omega, by omega, by omega, by simp, by omega, Rl.nil, fun j nm h => by simp at h, fun p hp => (by cases hp), by omega, fun d k1 hk1 ok => ?_⟩
  obtain ⟨t, et, ht⟩ := ok.ex
  have er : res (st (1 + m0 + 3) [] d) = true := by rw [et]; exact decide_eq_true (by omega)
  walk_at "dd"
  refine ⟨1 + m0 + 3, d, rfl, ok.dp, ok.fn.up (by omega), ?_⟩
  rw [er]
  walk_at "dd"
  refine qa9g (x := .bool false) rfl ?_
  walk_at "dd"
  refine ⟨1 + m0 + 3, d, rfl, ok.dp, by omega, ok.fn.up (by omega), ?_⟩
  rw [er]
  walk_at "dd"
  refine ⟨⟨by decide, by decide⟩, (by show 4 <= 1000000; decide), ?_⟩
  refine qa9e (fun j ρ acc => ∃ (v0 : Option L) (k' : Nat), ρ = [v0, some (.tape k'), some (.d d)] /\ k' <= k1 + 100 * j /\ j <= 4 /\ acc.length = j /\ ∀ x ∈ acc, GL x) ⟨none, k1, rfl, by omega, by omega, rfl, fun x hx => by simp at hx⟩ ?_ ?_
  ·rintro j u2 ρ acc N2 hu2 ⟨v0, k', rfl, hk', hj, hal, hacc⟩ hN2
   have hj2 : j < 4 := by
    have := (List.getElem?_eq_some_iff.mp hu2).1
    simpa [rngD] using this
   walk_at "dd"
   refine ⟨k', 9, 1 + m0 + 3, d, rfl, by omega, ok.dp, by omega, ok.fn, by omega, by omega, fun d' k2 hk2 hf' hd' => ?_⟩
   walk_at "dd"
   refine hN2 _ _ ⟨_, k2, rfl, by omega, by omega, by rw [List.length_append, hal]; rfl, fun x hx => ?_⟩
   rcases List.mem_append.mp hx with hx | hx
   ·exact hacc x hx
   ·rw [List.mem_singleton.mp hx]; exact ⟨qb1d (by omega) hd', hf'.up (by omega)⟩
  rintro ρ acc ⟨v0, k2, rfl, hk2, _, hal, hacc⟩
  have hal : acc.length = 4 := by rw [hal]; simp [rngD]
  have hk2 : k2 <= k1 + 400 := by simp [rngD] at hk2; omega
  walk_at "dd"
  rw [qb1w (by omega), qa1c]
  walk_at "dd"
  refine ⟨k2, 9, 1 + m0 + 3, d, rfl, by omega, ok.dp, by omega, ok.fn, by omega, by omega, fun d2 k3 hk3 hf2 hd2 => ?_⟩
  walk_at "dd"
  refine ⟨k3, 9 + 1, 1 + m0 + 3 + 1, d2, rfl, by omega, hd2, by omega, hf2, by omega, by omega, fun d3 k4 hk4 hf3 hd3 => ?_⟩
  walk_at "dd"
  rw [qb1w (by rw [List.length_append]; show _ + 1 <= _; omega), qa1c]
  walk_at "dd"
  refine hN _ ⟨k4, ds ++ acc ++ [d3], _, _, rfl, by omega, by omega, by rw [List.length_append, List.length_append]; show _ + 1 <= _; omega, fun x hx => ?_⟩
  rcases List.mem_append.mp hx with hx | hx
  ·rcases List.mem_append.mp hx with hx | hx
   ·exact hds x hx
   ·exact hacc x hx
  ·rw [List.mem_singleton.mp hx]; exact ⟨qb1d (by omega) hd3, hf3.up (by omega)⟩
 rintro ρ ⟨k, ds, v3, v4, rfl, hk, _, hdl, hds⟩
 have hdl : ds.length <= 140 := by simp [rngD] at hdl; omega
 have hL8 : ∀ d ∈ [PyData.none, .tuple [], .str "fact", .list [.str "fact", .str "p"], .tuple [.str "fact"], .dict [(.str "fact", .str "p")], .tuple [.str "wish", .str "x"], .tuple [.tuple [.str "fact", .str "p"]]], GL d := by
  intro d hd
  simp only [List.mem_cons, List.not_mem_nil, or_false] at hd
  have s9 : ∀ z : Str, z.length <= 9 -> Fn 9 (.str z) := fun z hz => hz
  rcases hd with rfl | rfl | rfl | rfl | rfl | rfl | rfl | rfl
  ·exact ⟨qa1y nofun, trivial⟩
  ·exact ⟨qa2m fun x hx => by simp at hx, by simp, trivial⟩
  ·exact ⟨qa1y nofun, (s9 _ (by decide +kernel)).up (by omega)⟩
  ·exact ⟨qa1y nofun, trivial⟩
  ·exact ⟨qa9h (ss := ["fact"]) (h := 78), (qa9i (c := 9) (ss := ["fact"]) (by decide) (by decide +kernel)).up (by omega)⟩
  ·exact ⟨qa1y nofun, trivial⟩
  ·exact ⟨qa9h (ss := ["wish", "x"]) (h := 78), (qa9i (c := 9) (ss := ["wish", "x"]) (by decide) (by decide +kernel)).up (by omega)⟩
  ·refine ⟨qa2m fun x hx => ?_, by simp, (qa9i (c := 9) (ss := ["fact", "p"]) (by decide) (by decide +kernel)).up (by omega), trivial⟩
   rw [List.mem_singleton.mp hx]; exact qa9h (ss := ["fact", "p"]) (h := 77)
 walk_at "dd"
 rw [qb1w (by show _ + 8 <= _; omega), qa1c]
 walk_at "dd"
 refine qa5x (fun i ρ => ∃ v5 v6 : Option L, ρ = [some .scr, some (.tape k), some (.d (.list ds)), v3, v4, v5, v6]) ⟨_, _, rfl⟩ ?_ ?_
 ·rintro i x ρ N hx ⟨v5, v6, rfl⟩ hN
  obtain ⟨hdp, hfn⟩ : GL x := by
   rcases List.mem_append.mp (List.mem_of_getElem? hx) with h | h
   ·exact hds x h
   ·exact hL8 x h
  walk_at "dd"
  refine ⟨80, x, rfl, hdp, hfn, ?_⟩
  walk_at "dd"
  rw [show isD "bool" (.bool (res (st 80 [] x))) = true from rfl]
  walk_at "dd"
  refine ⟨80, x, rfl, hdp, by omega, hfn, ?_⟩
  walk_at "dd"
  rw [if_neg (by simp)]
  exact hN _ ⟨_, _, rfl⟩
 ·rintro ρ ⟨v5, v6, rfl⟩
  walk_at "dd"
end
theorem all_mk {P : Program} {w : World} {K : W.Frag} {h : Heap} {mg : Str -> Option Value} {fa : Addr} (X : K.In h) (G : h.Ns mainGlobals mg) (hfa : mg "law" = some (.ref fa))
  {f_is_name : Addr} {qe2d qe2e : Option Addr} {qe2f : Array (Option Value)} {qe2g qe2h qe2i qe2j qc3t qe2k : Value}
  (qb8x : W.nsIn K mainGlobals "is_name" = some (some (.ref f_is_name))) (qb8y : K.lookup f_is_name = some ⟨qe2g, qe2d, .func (W.fnOf "is_name" "is_name" (qa1b qa4t) (qa0x qa4t) (qa0h qa4t) .none qe2h qe2i qe2j qe2e qc3t qe2k), qe2f⟩) (qb8z : W.codeIn K qc3t "is_name" = true) (qb9a : W.keepIn K (.ref f_is_name) = true)
  {f_are_rising_names : Addr} {qb7t qb7u : Option Addr} {qb7v : Array (Option Value)} {qb7w qb7x qb7y qb7z qa8v qb8a : Value}
  (qa6n : W.nsIn K mainGlobals "are_rising_names" = some (some (.ref f_are_rising_names))) (qa6o : K.lookup f_are_rising_names = some ⟨qb7w, qb7t, .func (W.fnOf "are_rising_names" "are_rising_names" (qa1b qa1x) (qa0x qa1x) (qa0h qa1x) .none qb7x qb7y qb7z qb7u qa8v qb8a), qb7v⟩) (qa6p : W.codeIn K qa8v "are_rising_names" = true) (qa6q : W.keepIn K (.ref f_are_rising_names) = true)
  {f_is_hands : Addr} {qd4w qd4x : Option Addr} {qd4y : Array (Option Value)} {qd4z qd5a qd5b qd5c qc0t qd5d : Value}
  (qb5t : W.nsIn K mainGlobals "is_hands" = some (some (.ref f_is_hands))) (qb5u : K.lookup f_is_hands = some ⟨qd4z, qd4w, .func (W.fnOf "is_hands" "is_hands" (qa1b qa4b) (qa0x qa4b) (qa0h qa4b) .none qd5a qd5b qd5c qd4x qc0t qd5d), qd4y⟩) (qb5v : W.codeIn K qc0t "is_hands" = true) (qb5w : W.keepIn K (.ref f_is_hands) = true)
  {f_is_step : Addr} {qe2l qe2m : Option Addr} {qe2n : Array (Option Value)} {qe2o qe2p qe2q qe2r qc3u qe2s : Value}
  (qb9b : W.nsIn K mainGlobals "is_step" = some (some (.ref f_is_step))) (qb9c : K.lookup f_is_step = some ⟨qe2o, qe2l, .func (W.fnOf "is_step" "is_step" (qa1b qa5q) (qa0x qa5q) (qa0h qa5q) .none qe2p qe2q qe2r qe2m qc3u qe2s), qe2n⟩) (qb9d : W.codeIn K qc3u "is_step" = true) (qb9e : W.keepIn K (.ref f_is_step) = true)
  {f_is_sentence : Addr} {qc4x qc4y : Option Addr} {qc4z : Array (Option Value)} {qc5a qc5b qc5c qc5d qb4s qc5e : Value}
  (qb0f : W.nsIn K mainGlobals "is_sentence" = some (some (.ref f_is_sentence))) (qb0g : K.lookup f_is_sentence = some ⟨qc5a, qc4x, .func (W.fnOf "is_sentence" "is_sentence" (qa1b qa3i) (qa0x qa3i) (qa0h qa3i) .none qc5b qc5c qc5d qc4y qb4s qc5e), qc4z⟩) (qb0h : W.codeIn K qb4s "is_sentence" = true) (qb0i : W.keepIn K (.ref f_is_sentence) = true)
  {f_is_formed : Addr} {qd2a qd2b : Option Addr} {qd2c : Array (Option Value)} {qd2d qd2e qd2f qd2g qb9f qd2h : Value}
  (qb3b : W.nsIn K mainGlobals "is_formed" = some (some (.ref f_is_formed))) (qb3c : K.lookup f_is_formed = some ⟨qd2d, qd2a, .func (W.fnOf "is_formed" "is_formed" (qa1b qa4d) (qa0x qa4d) (qa0h qa4d) .none qd2e qd2f qd2g qd2b qb9f qd2h), qd2c⟩) (qb3d : W.codeIn K qb9f "is_formed" = true) (qb3e : W.keepIn K (.ref f_is_formed) = true)
  {f_head_of : Addr} {qe2t qe2u : Option Addr} {qe2v : Array (Option Value)} {qe2w qe2x qe2y qe2z qc3v qe3a : Value}
  (qb9g : W.nsIn K mainGlobals "head_of" = some (some (.ref f_head_of))) (qb9h : K.lookup f_head_of = some ⟨qe2w, qe2t, .func (W.fnOf "head_of" "head_of" (qa1b qa5r) (qa0x qa5r) (qa0h qa5r) .none qe2x qe2y qe2z qe2u qc3v qe3a), qe2v⟩) (qb9i : W.codeIn K qc3v "head_of" = true) (qb9j : W.keepIn K (.ref f_head_of) = true)
  {f_has_form : Addr} {qd5e qd5f : Option Addr} {qd5g : Array (Option Value)} {qd5h qd5i qd5j qd5k qc0u qd5l : Value}
  (qb5x : W.nsIn K mainGlobals "has_form" = some (some (.ref f_has_form))) (qb5y : K.lookup f_has_form = some ⟨qd5h, qd5e, .func (W.fnOf "has_form" "has_form" (qa1b qa4v) (qa0x qa4v) (qa0h qa4v) .none qd5i qd5j qd5k qd5f qc0u qd5l), qd5g⟩) (qb5z : W.codeIn K qc0u "has_form" = true) (qb6a : W.keepIn K (.ref f_has_form) = true)
  {f_is_taken : Addr} {qd5m qd5n : Option Addr} {qd5o : Array (Option Value)} {qd5p qd5q qd5r qd5s qc0v qd5t : Value}
  (qb6b : W.nsIn K mainGlobals "is_taken" = some (some (.ref f_is_taken))) (qb6c : K.lookup f_is_taken = some ⟨qd5p, qd5m, .func (W.fnOf "is_taken" "is_taken" (qa1b qa4u) (qa0x qa4u) (qa0h qa4u) .none qd5q qd5r qd5s qd5n qc0v qd5t), qd5o⟩) (qb6d : W.codeIn K qc0v "is_taken" = true) (qb6e : W.keepIn K (.ref f_is_taken) = true)
  {f_parts_of : Addr} {qd5u qd5v : Option Addr} {qd5w : Array (Option Value)} {qd5x qd5y qd5z qd6a qc0w qd6b : Value}
  (qb6f : W.nsIn K mainGlobals "parts_of" = some (some (.ref f_parts_of))) (qb6g : K.lookup f_parts_of = some ⟨qd5x, qd5u, .func (W.fnOf "parts_of" "parts_of" (qa1b qa4w) (qa0x qa4w) (qa0h qa4w) .none qd5y qd5z qd6a qd5v qc0w qd6b), qd5w⟩) (qb6h : W.codeIn K qc0w "parts_of" = true) (qb6i : W.keepIn K (.ref f_parts_of) = true)
  {f_is_binder : Addr} {qd2i qd2j : Option Addr} {qd2k : Array (Option Value)} {qd2l qd2m qd2n qd2o qb9k qd2p : Value}
  (qb3f : W.nsIn K mainGlobals "is_binder" = some (some (.ref f_is_binder))) (qb3g : K.lookup f_is_binder = some ⟨qd2l, qd2i, .func (W.fnOf "is_binder" "is_binder" (qa1b qa3l) (qa0x qa3l) (qa0h qa3l) .none qd2m qd2n qd2o qd2j qb9k qd2p), qd2k⟩) (qb3h : W.codeIn K qb9k "is_binder" = true) (qb3i : W.keepIn K (.ref f_is_binder) = true)
  {f_may_stand : Addr} {qd2q qd2r : Option Addr} {qd2s : Array (Option Value)} {qd2t qd2u qd2v qd2w qb9l qd2x : Value}
  (qb3j : W.nsIn K mainGlobals "may_stand" = some (some (.ref f_may_stand))) (qb3k : K.lookup f_may_stand = some ⟨qd2t, qd2q, .func (W.fnOf "may_stand" "may_stand" (qa1b qa4f) (qa0x qa4f) (qa0h qa4f) .none qd2u qd2v qd2w qd2r qb9l qd2x), qd2s⟩) (qb3l : W.codeIn K qb9l "may_stand" = true) (qb3m : W.keepIn K (.ref f_may_stand) = true)
  {f_may_begin : Addr} {qd2y qd2z : Option Addr} {qd3a : Array (Option Value)} {qd3b qd3c qd3d qd3e qb9m qd3f : Value}
  (qb3n : W.nsIn K mainGlobals "may_begin" = some (some (.ref f_may_begin))) (qb3o : K.lookup f_may_begin = some ⟨qd3b, qd2y, .func (W.fnOf "may_begin" "may_begin" (qa1b qa4e) (qa0x qa4e) (qa0h qa4e) .none qd3c qd3d qd3e qd2z qb9m qd3f), qd3a⟩) (qb3p : W.codeIn K qb9m "may_begin" = true) (qb3q : W.keepIn K (.ref f_may_begin) = true)
  {f_may_take : Addr} {qd6c qd6d : Option Addr} {qd6e : Array (Option Value)} {qd6f qd6g qd6h qd6i qc0x qd6j : Value}
  (qb6j : W.nsIn K mainGlobals "may_take" = some (some (.ref f_may_take))) (qb6k : K.lookup f_may_take = some ⟨qd6f, qd6c, .func (W.fnOf "may_take" "may_take" (qa1b qa4y) (qa0x qa4y) (qa0h qa4y) .none qd6g qd6h qd6i qd6d qc0x qd6j), qd6e⟩) (qb6l : W.codeIn K qc0x "may_take" = true) (qb6m : W.keepIn K (.ref f_may_take) = true)
  {f_may_wish : Addr} {qd6k qd6l : Option Addr} {qd6m : Array (Option Value)} {qd6n qd6o qd6p qd6q qc0y qd6r : Value}
  (qb6n : W.nsIn K mainGlobals "may_wish" = some (some (.ref f_may_wish))) (qb6o : K.lookup f_may_wish = some ⟨qd6n, qd6k, .func (W.fnOf "may_wish" "may_wish" (qa1b qa4x) (qa0x qa4x) (qa0h qa4x) .none qd6o qd6p qd6q qd6l qc0y qd6r), qd6m⟩) (qb6p : W.codeIn K qc0y "may_wish" = true) (qb6q : W.keepIn K (.ref f_may_wish) = true)
  {f_names_bound : Addr} {qc5f qc5g : Option Addr} {qc5h : Array (Option Value)} {qc5i qc5j qc5k qc5l qb4t qc5m : Value}
  (qb0j : W.nsIn K mainGlobals "names_bound" = some (some (.ref f_names_bound))) (qb0k : K.lookup f_names_bound = some ⟨qc5i, qc5f, .func (W.fnOf "names_bound" "names_bound" (qa1b qa2x) (qa0x qa2x) (qa0h qa2x) .none qc5j qc5k qc5l qc5g qb4t qc5m), qc5h⟩) (qb0l : W.codeIn K qb4t "names_bound" = true) (qb0m : W.keepIn K (.ref f_names_bound) = true)
  {qa7l : Addr} {qc5n qc5o : Option Addr} {qc5p : Array (Option Value)} {qc5q qc5r qc5s qc5t qb4u qc5u : Value}
  (qb0n : W.nsIn K mainGlobals "_law_cell_at" = some (some (.ref qa7l))) (qb0o : K.lookup qa7l = some ⟨qc5q, qc5n, .func (W.fnOf "_law_cell_at" "_law_cell_at" (qa1b qa2w) (qa0x qa2w) (qa0h qa2w) .none qc5r qc5s qc5t qc5o qb4u qc5u), qc5p⟩) (qb0p : W.codeIn K qb4u "_law_cell_at" = true) (qb0q : W.keepIn K (.ref qa7l) = true)
  {qb6r : Addr} {qe4w qe4x : Option Addr} {qe4y : Array (Option Value)} {qe4z qe5a qe5b qe5c qc7e qe5d : Value}
  (qc1t : W.nsIn K mainGlobals "_law_by" = some (some (.ref qb6r))) (qc1u : K.lookup qb6r = some ⟨qe4z, qe4w, .func (W.fnOf "_law_by" "_law_by" (qa1b qa6m) (qa0x qa6m) (qa0h qa6m) .none qe5a qe5b qe5c qe4x qc7e qe5d), qe4y⟩) (qc1v : W.codeIn K qc7e "_law_by" = true) (qc1w : W.keepIn K (.ref qb6r) = true)
  {qa8g : Addr} {qd6s qd6t : Option Addr} {qd6u : Array (Option Value)} {qd6v qd6w qd6x qd6y qc0z qd6z : Value}
  (qb6s : W.nsIn K mainGlobals "_law_next" = some (some (.ref qa8g))) (qb6t : K.lookup qa8g = some ⟨qd6v, qd6s, .func (W.fnOf "_law_next" "_law_next" (qa1b qa4s) (qa0x qa4s) (qa0h qa4s) .none qd6w qd6x qd6y qd6t qc0z qd6z), qd6u⟩) (qb6u : W.codeIn K qc0z "_law_next" = true) (qb6v : W.keepIn K (.ref qa8g) = true)
  {qa7f : Addr} {qd3g qd3h : Option Addr} {qd3i : Array (Option Value)} {qd3j qd3k qd3l qd3m qb9n qd3n : Value}
  (qb3r : W.nsIn K mainGlobals "_law_hands" = some (some (.ref qa7f))) (qb3s : K.lookup qa7f = some ⟨qd3j, qd3g, .func (W.fnOf "_law_hands" "_law_hands" (qa1b qa3m) (qa0x qa3m) (qa0h qa3m) .none qd3k qd3l qd3m qd3h qb9n qd3n), qd3i⟩) (qb3t : W.codeIn K qb9n "_law_hands" = true) (qb3u : W.keepIn K (.ref qa7f) = true)
  {qa8h : Addr} {qd7a qd7b : Option Addr} {qd7c : Array (Option Value)} {qd7d qd7e qd7f qd7g qc1a qd7h : Value}
  (qb6w : W.nsIn K mainGlobals "_law_step" = some (some (.ref qa8h))) (qb6x : K.lookup qa8h = some ⟨qd7d, qd7a, .func (W.fnOf "_law_step" "_law_step" (qa1b qa5a) (qa0x qa5a) (qa0h qa5a) .none qd7e qd7f qd7g qd7b qc1a qd7h), qd7c⟩) (qb6y : W.codeIn K qc1a "_law_step" = true) (qb6z : W.keepIn K (.ref qa8h) = true)
  {qa8i : Addr} {qd7i qd7j : Option Addr} {qd7k : Array (Option Value)} {qd7l qd7m qd7n qd7o qc1b qd7p : Value}
  (qb7a : W.nsIn K mainGlobals "_law_leaf" = some (some (.ref qa8i))) (qb7b : K.lookup qa8i = some ⟨qd7l, qd7i, .func (W.fnOf "_law_leaf" "_law_leaf" (qa1b qa5b) (qa0x qa5b) (qa0h qa5b) .none qd7m qd7n qd7o qd7j qc1b qd7p), qd7k⟩) (qb7c : W.codeIn K qc1b "_law_leaf" = true) (qb7d : W.keepIn K (.ref qa8i) = true)
  {qa5p : Addr} {qc3w qc3x : Option Addr} {qc3y : Array (Option Value)} {qc3z qc4a qc4b qc4c qb2x qc4d : Value}
  (qa9l : W.nsIn K mainGlobals "_law_sentence" = some (some (.ref qa5p))) (qa9m : K.lookup qa5p = some ⟨qc3z, qc3w, .func (W.fnOf "_law_sentence" "_law_sentence" (qa1b qa2j) (qa0x qa2j) (qa0h qa2j) .none qc4a qc4b qc4c qc3x qb2x qc4d), qc3y⟩) (qa9n : W.codeIn K qb2x "_law_sentence" = true) (qa9o : W.keepIn K (.ref qa5p) = true)
  {qa5d : Addr} {qc1x qc1y : Option Addr} {qc1z : Array (Option Value)} {qc2a qc2b qc2c qc2d qb2h qc2e : Value}
  (qa8j : W.nsIn K mainGlobals "_law_bent_leaf" = some (some (.ref qa5d))) (qa8k : K.lookup qa5d = some ⟨qc2a, qc1x, .func (W.fnOf "_law_bent_leaf" "_law_bent_leaf" (qa1b qa2p) (qa0x qa2p) (qa0h qa2p) .none qc2b qc2c qc2d qc1y qb2h qc2e), qc1z⟩) (qa8l : W.codeIn K qb2h "_law_bent_leaf" = true) (qa8m : W.keepIn K (.ref qa5d) = true)
  {qa8n : Addr} {qd7q qd7r : Option Addr} {qd7s : Array (Option Value)} {qd7t qd7u qd7v qd7w qc1c qd7x : Value}
  (qb7e : W.nsIn K mainGlobals "_law_bent" = some (some (.ref qa8n))) (qb7f : K.lookup qa8n = some ⟨qd7t, qd7q, .func (W.fnOf "_law_bent" "_law_bent" (qa1b qa4c) (qa0x qa4c) (qa0h qa4c) .none qd7u qd7v qd7w qd7r qc1c qd7x), qd7s⟩) (qb7g : W.codeIn K qc1c "_law_bent" = true) (qb7h : W.keepIn K (.ref qa8n) = true)
  {qa7g : Addr} {qd3o qd3p : Option Addr} {qd3q : Array (Option Value)} {qd3r qd3s qd3t qd3u qb9o qd3v : Value}
  (qb3v : W.nsIn K mainGlobals "_law_named" = some (some (.ref qa7g))) (qb3w : K.lookup qa7g = some ⟨qd3r, qd3o, .func (W.fnOf "_law_named" "_law_named" (qa1b qa3k) (qa0x qa3k) (qa0h qa3k) .none qd3s qd3t qd3u qd3p qb9o qd3v), qd3q⟩) (qb3x : W.codeIn K qb9o "_law_named" = true) (qb3y : W.keepIn K (.ref qa7g) = true)
  {qa5e : Addr} {qc2f qc2g : Option Addr} {qc2h : Array (Option Value)} {qc2i qc2j qc2k qc2l qb2i qc2m : Value}
  (qa8o : W.nsIn K mainGlobals "_law_are_hands" = some (some (.ref qa5e))) (qa8p : K.lookup qa5e = some ⟨qc2i, qc2f, .func (W.fnOf "_law_are_hands" "_law_are_hands" (qa1b qa2d) (qa0x qa2d) (qa0h qa2d) .none qc2j qc2k qc2l qc2g qb2i qc2m), qc2h⟩) (qa8q : W.codeIn K qb2i "_law_are_hands" = true) (qa8r : W.keepIn K (.ref qa5e) = true)
  {qa6c : Addr} {qc5v qc5w : Option Addr} {qc5x : Array (Option Value)} {qc5y qc5z qc6a qc6b qb4v qc6c : Value}
  (qb0r : W.nsIn K mainGlobals "_law_is_step" = some (some (.ref qa6c))) (qb0s : K.lookup qa6c = some ⟨qc5y, qc5v, .func (W.fnOf "_law_is_step" "_law_is_step" (qa1b qa3h) (qa0x qa3h) (qa0h qa3h) .none qc5z qc6a qc6b qc5w qb4v qc6c), qc5x⟩) (qb0t : W.codeIn K qb4v "_law_is_step" = true) (qb0u : W.keepIn K (.ref qa6c) = true)
  {qa6r : Addr} {qc7m qc7n : Option Addr} {qc7o : Array (Option Value)} {qc7p qc7q qc7r qc7s qb7o qc7t : Value}
  (qb2j : W.nsIn K mainGlobals "_law_stands" = some (some (.ref qa6r))) (qb2k : K.lookup qa6r = some ⟨qc7p, qc7m, .func (W.fnOf "_law_stands" "_law_stands" (qa1b qa3e) (qa0x qa3e) (qa0h qa3e) .none qc7q qc7r qc7s qc7n qb7o qc7t), qc7o⟩) (qb2l : W.codeIn K qb7o "_law_stands" = true) (qb2m : W.keepIn K (.ref qa6r) = true)
  {qa3x : Addr} {qb9p qb9q : Option Addr} {qb9r : Array (Option Value)} {qb9s qb9t qb9u qb9v qb0d qb9w : Value}
  (qa6x : W.nsIn K mainGlobals "_law_is_sentence" = some (some (.ref qa3x))) (qa6y : K.lookup qa3x = some ⟨qb9s, qb9p, .func (W.fnOf "_law_is_sentence" "_law_is_sentence" (qa1b qa2a) (qa0x qa2a) (qa0h qa2a) .none qb9t qb9u qb9v qb9q qb0d qb9w), qb9r⟩) (qa6z : W.codeIn K qb0d "_law_is_sentence" = true) (qa7a : W.keepIn K (.ref qa3x) = true)
  {qa2u : Addr} {qd3w qd3x : Option Addr} {qd3y : Array (Option Value)} {qd3z qd4a qd4b qd4c qb9x qd4d : Value}
  (qb3z : W.nsIn K mainGlobals "_law_broad" = some (some (.ref qa2u))) (qb4a : K.lookup qa2u = some ⟨qd3z, qd3w, .func (W.fnOf "_law_broad" "_law_broad" (qa1b qa2t) (qa0x qa2t) (qa0h qa2t) .none qd4a qd4b qd4c qd3x qb9x qd4d), qd3y⟩) (qb4b : W.codeIn K qb9x "_law_broad" = true) (qb4c : W.keepIn K (.ref qa2u) = true)
  {qa6s : Addr} {qc7u qc7v : Option Addr} {qc7w : Array (Option Value)} {qc7x qc7y qc7z qc8a qb7p qc8b : Value}
  (qb2n : W.nsIn K mainGlobals "_law_towers" = some (some (.ref qa6s))) (qb2o : K.lookup qa6s = some ⟨qc7x, qc7u, .func (W.fnOf "_law_towers" "_law_towers" (qa1b qa3r) (qa0x qa3r) (qa0h qa3r) .none qc7y qc7z qc8a qc7v qb7p qc8b), qc7w⟩) (qb2p : W.codeIn K qb7p "_law_towers" = true) (qb2q : W.keepIn K (.ref qa6s) = true)
  {f_law : Addr} {od_law an_law : Option Addr} {sl_law : Array (Option Value)} {oc_law kV_law dc_law pm_law cd_law ct_law : Value}
  (a_law : W.nsIn K mainGlobals "law" = some (some (.ref f_law))) (l_law : K.lookup f_law = some ⟨oc_law, od_law, .func (W.fnOf "law" "law" (qa1b qb1e) (qa0x qb1e) (qa0h qb1e) .none kV_law dc_law pm_law an_law cd_law ct_law), sl_law⟩) (c_law : W.codeIn K cd_law "law" = true) (k_law : W.keepIn K (.ref f_law) = true)
  (z_len : W.nsIn K mainGlobals "len" = some none)
  (z_range : W.nsIn K mainGlobals "range" = some none)
  (z_tuple : W.nsIn K mainGlobals "tuple" = some none)
  (z_bool : W.nsIn K mainGlobals "bool" = some none)
  (z_isinstance : W.nsIn K mainGlobals "isinstance" = some none)
  (z_reversed : W.nsIn K mainGlobals "reversed" = some none)
  (z_max : W.nsIn K mainGlobals "max" = some none)
  (z_zip : W.nsIn K mainGlobals "zip" = some none)
  (z_list : W.nsIn K mainGlobals "list" = some none)
  (z_str : W.nsIn K mainGlobals "str" = some none)
  (z_enumerate : W.nsIn K mainGlobals "enumerate" = some none)
  (z_dict : W.nsIn K mainGlobals "dict" = some none)
  (z_sum : W.nsIn K mainGlobals "sum" = some none)
  (z_int : W.nsIn K mainGlobals "int" = some none)
  (z_min : W.nsIn K mainGlobals "min" = some none)
  (z_sorted : W.nsIn K mainGlobals "sorted" = some none)
  (z_all : W.nsIn K mainGlobals "all" = some none)
  (z_set : W.nsIn K mainGlobals "set" = some none)
  (z_repr : W.nsIn K mainGlobals "repr" = some none)
  {aT_FORMS : Addr} {ep_FORMS : Nat} {kt_FORMS_0 kt_FORMS_1 kt_FORMS_2 kt_FORMS_3 kt_FORMS_4 kt_FORMS_5 kt_FORMS_6 kt_FORMS_7 kt_FORMS_8 kt_FORMS_9 : Tok} {p_FORMS_0 p_FORMS_1 p_FORMS_2 p_FORMS_3 p_FORMS_4 p_FORMS_5 p_FORMS_6 p_FORMS_7 p_FORMS_8 p_FORMS_9 : Addr}
  (a_FORMS : W.nsIn K mainGlobals "FORMS" = some (some (.ref aT_FORMS)))
  (l_FORMS : K.lookup aT_FORMS = some ⟨.type "dict", none, .dict #[⟨PyData.keyHash w.params "fact", .str "fact" kt_FORMS_0, .ref p_FORMS_0⟩, ⟨PyData.keyHash w.params "wish", .str "wish" kt_FORMS_1, .ref p_FORMS_1⟩, ⟨PyData.keyHash w.params "not", .str "not" kt_FORMS_2, .ref p_FORMS_2⟩, ⟨PyData.keyHash w.params "and", .str "and" kt_FORMS_3, .ref p_FORMS_3⟩, ⟨PyData.keyHash w.params "or", .str "or" kt_FORMS_4, .ref p_FORMS_4⟩, ⟨PyData.keyHash w.params "some", .str "some" kt_FORMS_5, .ref p_FORMS_5⟩, ⟨PyData.keyHash w.params "every", .str "every" kt_FORMS_6, .ref p_FORMS_6⟩, ⟨PyData.keyHash w.params "least", .str "least" kt_FORMS_7, .ref p_FORMS_7⟩, ⟨PyData.keyHash w.params "most", .str "most" kt_FORMS_8, .ref p_FORMS_8⟩, ⟨PyData.keyHash w.params "show", .str "show" kt_FORMS_9, .ref p_FORMS_9⟩] ep_FORMS, #[]⟩)
  {odp_FORMS_0 : Option Addr} {n_FORMS_0 : Nat} {slp_FORMS_0 : Array (Option Value)} {tk_FORMS_0_0 tk_FORMS_0_1 : Tok} (l_FORMS_0 : K.lookup p_FORMS_0 = some ⟨.type "tuple", odp_FORMS_0, .seq #[.str "name" tk_FORMS_0_0, .int 0 tk_FORMS_0_1] n_FORMS_0, slp_FORMS_0⟩)
  {odp_FORMS_1 : Option Addr} {n_FORMS_1 : Nat} {slp_FORMS_1 : Array (Option Value)} {tk_FORMS_1_0 tk_FORMS_1_1 : Tok} (l_FORMS_1 : K.lookup p_FORMS_1 = some ⟨.type "tuple", odp_FORMS_1, .seq #[.str "name" tk_FORMS_1_0, .int 0 tk_FORMS_1_1] n_FORMS_1, slp_FORMS_1⟩)
  {odp_FORMS_2 : Option Addr} {n_FORMS_2 : Nat} {slp_FORMS_2 : Array (Option Value)} {tk_FORMS_2_0 tk_FORMS_2_1 : Tok} (l_FORMS_2 : K.lookup p_FORMS_2 = some ⟨.type "tuple", odp_FORMS_2, .seq #[.str "" tk_FORMS_2_0, .int 1 tk_FORMS_2_1] n_FORMS_2, slp_FORMS_2⟩)
  {odp_FORMS_3 : Option Addr} {n_FORMS_3 : Nat} {slp_FORMS_3 : Array (Option Value)} {tk_FORMS_3_0 tk_FORMS_3_1 : Tok} (l_FORMS_3 : K.lookup p_FORMS_3 = some ⟨.type "tuple", odp_FORMS_3, .seq #[.str "" tk_FORMS_3_0, .int 2 tk_FORMS_3_1] n_FORMS_3, slp_FORMS_3⟩)
  {odp_FORMS_4 : Option Addr} {n_FORMS_4 : Nat} {slp_FORMS_4 : Array (Option Value)} {tk_FORMS_4_0 tk_FORMS_4_1 : Tok} (l_FORMS_4 : K.lookup p_FORMS_4 = some ⟨.type "tuple", odp_FORMS_4, .seq #[.str "" tk_FORMS_4_0, .int 2 tk_FORMS_4_1] n_FORMS_4, slp_FORMS_4⟩)
  {odp_FORMS_5 : Option Addr} {n_FORMS_5 : Nat} {slp_FORMS_5 : Array (Option Value)} {tk_FORMS_5_0 tk_FORMS_5_1 : Tok} (l_FORMS_5 : K.lookup p_FORMS_5 = some ⟨.type "tuple", odp_FORMS_5, .seq #[.str "step" tk_FORMS_5_0, .int 1 tk_FORMS_5_1] n_FORMS_5, slp_FORMS_5⟩)
  {odp_FORMS_6 : Option Addr} {n_FORMS_6 : Nat} {slp_FORMS_6 : Array (Option Value)} {tk_FORMS_6_0 tk_FORMS_6_1 : Tok} (l_FORMS_6 : K.lookup p_FORMS_6 = some ⟨.type "tuple", odp_FORMS_6, .seq #[.str "step" tk_FORMS_6_0, .int 1 tk_FORMS_6_1] n_FORMS_6, slp_FORMS_6⟩)
  {odp_FORMS_7 : Option Addr} {n_FORMS_7 : Nat} {slp_FORMS_7 : Array (Option Value)} {tk_FORMS_7_0 tk_FORMS_7_1 : Tok} (l_FORMS_7 : K.lookup p_FORMS_7 = some ⟨.type "tuple", odp_FORMS_7, .seq #[.str "name" tk_FORMS_7_0, .int 1 tk_FORMS_7_1] n_FORMS_7, slp_FORMS_7⟩)
  {odp_FORMS_8 : Option Addr} {n_FORMS_8 : Nat} {slp_FORMS_8 : Array (Option Value)} {tk_FORMS_8_0 tk_FORMS_8_1 : Tok} (l_FORMS_8 : K.lookup p_FORMS_8 = some ⟨.type "tuple", odp_FORMS_8, .seq #[.str "name" tk_FORMS_8_0, .int 1 tk_FORMS_8_1] n_FORMS_8, slp_FORMS_8⟩)
  {odp_FORMS_9 : Option Addr} {n_FORMS_9 : Nat} {slp_FORMS_9 : Array (Option Value)} {tk_FORMS_9_0 tk_FORMS_9_1 : Tok} (l_FORMS_9 : K.lookup p_FORMS_9 = some ⟨.type "tuple", odp_FORMS_9, .seq #[.str "hands" tk_FORMS_9_0, .int 2 tk_FORMS_9_1] n_FORMS_9, slp_FORMS_9⟩)
  (sy_FORMS : (aT_FORMS == sysModules) = false)
  {tk_LONGEST_NAME : Tok} (a_LONGEST_NAME : W.nsIn K mainGlobals "LONGEST_NAME" = some (some (.int 8 tk_LONGEST_NAME)))
  {tk_MOST_HANDS : Tok} (a_MOST_HANDS : W.nsIn K mainGlobals "MOST_HANDS" = some (some (.int 4 tk_MOST_HANDS)))
  {tk_MOST_THINGS : Tok} (a_MOST_THINGS : W.nsIn K mainGlobals "MOST_THINGS" = some (some (.int 60 tk_MOST_THINGS)))
  {tk_MOST_BINDERS : Tok} (a_MOST_BINDERS : W.nsIn K mainGlobals "MOST_BINDERS" = some (some (.int 4 tk_MOST_BINDERS)))
  {tk_MOST_SHOWS : Tok} (a_MOST_SHOWS : W.nsIn K mainGlobals "MOST_SHOWS" = some (some (.int 3 tk_MOST_SHOWS)))
  : ∃ fd : FuncData, (∀ (s : Shared) (v : Value), BindsTo s fd ⟨[v], []⟩ [("_law_script", v)]) /\ ∀ base : Heap, K.In base -> base.Ns mainGlobals mg -> FnOk P w K mg base CX0 106 fa fd ["_law_script"] (spLaw K) := by
 have e := hfa.symm.trans (W.mg_of X G a_law)
 cases e
 have F_is_name := qa1p (st := qa4t) qb8y qb8z qb9a
 have d_is_name : Def K mg "is_name" qa4t ["thing"] f_is_name _ := ⟨F_is_name, F_is_name.binds (ps := ["thing"]) fun _ _ _ _ _ _ => us1 fun _ => rfl, W.mg_of X G qb8x⟩
 have F_are_rising_names := qa1p (st := qa1x) qa6o qa6p qa6q
 have d_are_rising_names : Def K mg "are_rising_names" qa1x ["things"] f_are_rising_names _ := ⟨F_are_rising_names, F_are_rising_names.binds (ps := ["things"]) fun _ _ _ _ _ _ => us1 fun _ => rfl, W.mg_of X G qa6n⟩
 have F_is_hands := qa1p (st := qa4b) qb5u qb5v qb5w
 have d_is_hands : Def K mg "is_hands" qa4b ["thing"] f_is_hands _ := ⟨F_is_hands, F_is_hands.binds (ps := ["thing"]) fun _ _ _ _ _ _ => us1 fun _ => rfl, W.mg_of X G qb5t⟩
 have F_is_step := qa1p (st := qa5q) qb9c qb9d qb9e
 have d_is_step : Def K mg "is_step" qa5q ["thing"] f_is_step _ := ⟨F_is_step, F_is_step.binds (ps := ["thing"]) fun _ _ _ _ _ _ => us1 fun _ => rfl, W.mg_of X G qb9b⟩
 have F_is_sentence := qa1p (st := qa3i) qb0g qb0h qb0i
 have d_is_sentence : Def K mg "is_sentence" qa3i ["thing"] f_is_sentence _ := ⟨F_is_sentence, F_is_sentence.binds (ps := ["thing"]) fun _ _ _ _ _ _ => us1 fun _ => rfl, W.mg_of X G qb0f⟩
 have F_is_formed := qa1p (st := qa4d) qb3c qb3d qb3e
 have d_is_formed : Def K mg "is_formed" qa4d ["thing"] f_is_formed _ := ⟨F_is_formed, F_is_formed.binds (ps := ["thing"]) fun _ _ _ _ _ _ => us1 fun _ => rfl, W.mg_of X G qb3b⟩
 have F_head_of := qa1p (st := qa5r) qb9h qb9i qb9j
 have d_head_of : Def K mg "head_of" qa5r ["thing"] f_head_of _ := ⟨F_head_of, F_head_of.binds (ps := ["thing"]) fun _ _ _ _ _ _ => us1 fun _ => rfl, W.mg_of X G qb9g⟩
 have F_has_form := qa1p (st := qa4v) qb5y qb5z qb6a
 have d_has_form : Def K mg "has_form" qa4v ["thing", "form"] f_has_form _ := ⟨F_has_form, F_has_form.binds (ps := ["thing", "form"]) fun _ _ _ _ _ _ => us2 fun _ _ => rfl, W.mg_of X G qb5x⟩
 have F_is_taken := qa1p (st := qa4u) qb6c qb6d qb6e
 have d_is_taken : Def K mg "is_taken" qa4u ["thing", "wanted"] f_is_taken _ := ⟨F_is_taken, F_is_taken.binds (ps := ["thing", "wanted"]) fun _ _ _ _ _ _ => us2 fun _ _ => rfl, W.mg_of X G qb6b⟩
 have F_parts_of := qa1p (st := qa4w) qb6g qb6h qb6i
 have d_parts_of : Def K mg "parts_of" qa4w ["sentence"] f_parts_of _ := ⟨F_parts_of, F_parts_of.binds (ps := ["sentence"]) fun _ _ _ _ _ _ => us1 fun _ => rfl, W.mg_of X G qb6f⟩
 have F_is_binder := qa1p (st := qa3l) qb3g qb3h qb3i
 have d_is_binder : Def K mg "is_binder" qa3l ["sentence"] f_is_binder _ := ⟨F_is_binder, F_is_binder.binds (ps := ["sentence"]) fun _ _ _ _ _ _ => us1 fun _ => rfl, W.mg_of X G qb3f⟩
 have F_may_stand := qa1p (st := qa4f) qb3k qb3l qb3m
 have d_may_stand : Def K mg "may_stand" qa4f ["sentence", "around"] f_may_stand _ := ⟨F_may_stand, F_may_stand.binds (ps := ["sentence", "around"]) fun _ _ _ _ _ _ => us2 fun _ _ => rfl, W.mg_of X G qb3j⟩
 have F_may_begin := qa1p (st := qa4e) qb3o qb3p qb3q
 have d_may_begin : Def K mg "may_begin" qa4e ["head", "around"] f_may_begin _ := ⟨F_may_begin, F_may_begin.binds (ps := ["head", "around"]) fun _ _ _ _ _ _ => us2 fun _ _ => rfl, W.mg_of X G qb3n⟩
 have F_may_take := qa1p (st := qa4y) qb6k qb6l qb6m
 have d_may_take : Def K mg "may_take" qa4y ["head", "taken", "around"] f_may_take _ := ⟨F_may_take, F_may_take.binds (ps := ["head", "taken", "around"]) fun _ _ _ _ _ _ => us3 fun _ _ _ => rfl, W.mg_of X G qb6j⟩
 have F_may_wish := qa1p (st := qa4x) qb6o qb6p qb6q
 have d_may_wish : Def K mg "may_wish" qa4x ["name", "around"] f_may_wish _ := ⟨F_may_wish, F_may_wish.binds (ps := ["name", "around"]) fun _ _ _ _ _ _ => us2 fun _ _ => rfl, W.mg_of X G qb6n⟩
 have F_names_bound := qa1p (st := qa2x) qb0k qb0l qb0m
 have d_names_bound : Def K mg "names_bound" qa2x ["around"] f_names_bound _ := ⟨F_names_bound, F_names_bound.binds (ps := ["around"]) fun _ _ _ _ _ _ => us1 fun _ => rfl, W.mg_of X G qb0j⟩
 have qb7q := qa1p (st := qa2w) qb0o qb0p qb0q
 have qa4p : Def K mg "_law_cell_at" qa2w ["_law_script", "_law_k"] qa7l _ := ⟨qb7q, qb7q.binds (ps := ["_law_script", "_law_k"]) fun _ _ _ _ _ _ => us2 fun _ _ => rfl, W.mg_of X G qb0n⟩
 have qd4e := qa1p (st := qa6m) qc1u qc1v qc1w
 have qb5i : Def K mg "_law_by" qa6m ["_law_script", "_law_k", "_law_many"] qb6r _ := ⟨qd4e, qd4e.binds (ps := ["_law_script", "_law_k", "_law_many"]) fun _ _ _ _ _ _ => us3 fun _ _ _ => rfl, W.mg_of X G qc1t⟩
 have qb7i := qa1p (st := qa4s) qb6t qb6u qb6v
 have qa0l : Def K mg "_law_next" qa4s ["_law_tape", "_law_many"] qa8g _ := ⟨qb7i, qb7i.binds (ps := ["_law_tape", "_law_many"]) fun _ _ _ _ _ _ => us2 fun _ _ => rfl, W.mg_of X G qb6s⟩
 have qb4d := qa1p (st := qa3m) qb3s qb3t qb3u
 have qa6e : Def K mg "_law_hands" qa3m ["_law_tape"] qa7f _ := ⟨qb4d, qb4d.binds (ps := ["_law_tape"]) fun _ _ _ _ _ _ => us1 fun _ => rfl, W.mg_of X G qb3r⟩
 have qb7j := qa1p (st := qa5a) qb6x qb6y qb6z
 have qb5q : Def K mg "_law_step" qa5a ["_law_tape"] qa8h _ := ⟨qb7j, qb7j.binds (ps := ["_law_tape"]) fun _ _ _ _ _ _ => us1 fun _ => rfl, W.mg_of X G qb6w⟩
 have qb7k := qa1p (st := qa5b) qb7b qb7c qb7d
 have qb5r : Def K mg "_law_leaf" qa5b ["_law_tape", "_law_free"] qa8i _ := ⟨qb7k, qb7k.binds (ps := ["_law_tape", "_law_free"]) fun _ _ _ _ _ _ => us2 fun _ _ => rfl, W.mg_of X G qb7a⟩
 have qa9p := qa1p (st := qa2j) qa9m qa9n qa9o
 have qa1r : Def K mg "_law_sentence" qa2j ["_law_tape", "_law_size", "_law_free", "_law_binders", "_law_shows"] qa5p _ := ⟨qa9p, qa9p.binds (ps := ["_law_tape", "_law_size", "_law_free", "_law_binders", "_law_shows"]) fun _ _ _ _ _ _ => us5 fun _ _ _ _ _ => rfl, W.mg_of X G qa9l⟩
 have qa8s := qa1p (st := qa2p) qa8k qa8l qa8m
 have qa8e : Def K mg "_law_bent_leaf" qa2p ["_law_tape", "_law_thing"] qa5d _ := ⟨qa8s, qa8s.binds (ps := ["_law_tape", "_law_thing"]) fun _ _ _ _ _ _ => us2 fun _ _ => rfl, W.mg_of X G qa8j⟩
 have qb7l := qa1p (st := qa4c) qb7f qb7g qb7h
 have qa4z : Def K mg "_law_bent" qa4c ["_law_tape", "_law_thing"] qa8n _ := ⟨qb7l, qb7l.binds (ps := ["_law_tape", "_law_thing"]) fun _ _ _ _ _ _ => us2 fun _ _ => rfl, W.mg_of X G qb7e⟩
 have qb4e := qa1p (st := qa3k) qb3w qb3x qb3y
 have qa5g : Def K mg "_law_named" qa3k ["_law_thing"] qa7g _ := ⟨qb4e, qb4e.binds (ps := ["_law_thing"]) fun _ _ _ _ _ _ => us1 fun _ => rfl, W.mg_of X G qb3v⟩
 have qa8t := qa1p (st := qa2d) qa8p qa8q qa8r
 have qa3v : Def K mg "_law_are_hands" qa2d ["_law_thing"] qa5e _ := ⟨qa8t, qa8t.binds (ps := ["_law_thing"]) fun _ _ _ _ _ _ => us1 fun _ => rfl, W.mg_of X G qa8o⟩
 have qb0v := qa1p (st := qa3h) qb0s qb0t qb0u
 have qb0e : Def K mg "_law_is_step" qa3h ["_law_thing"] qa6c _ := ⟨qb0v, qb0v.binds (ps := ["_law_thing"]) fun _ _ _ _ _ _ => us1 fun _ => rfl, W.mg_of X G qb0r⟩
 have qb2r := qa1p (st := qa3e) qb2k qb2l qb2m
 have qa2s : Def K mg "_law_stands" qa3e ["_law_thing", "_law_free", "_law_names", "_law_shows", "_law_count"] qa6r _ := ⟨qb2r, qb2r.binds (ps := ["_law_thing", "_law_free", "_law_names", "_law_shows", "_law_count"]) fun _ _ _ _ _ _ => us5 fun _ _ _ _ _ => rfl, W.mg_of X G qb2j⟩
 have qa7b := qa1p (st := qa2a) qa6y qa6z qa7a
 have qa5j : Def K mg "_law_is_sentence" qa2a ["_law_thing"] qa3x _ := ⟨qa7b, qa7b.binds (ps := ["_law_thing"]) fun _ _ _ _ _ _ => us1 fun _ => rfl, W.mg_of X G qa6x⟩
 have qa3n := qa1p (st := qa2t) qb4a qb4b qb4c
 have qa1h : Def K mg "_law_broad" qa2t ["_law_many"] qa2u _ := ⟨qa3n, qa3n.binds (ps := ["_law_many"]) fun _ _ _ _ _ _ => us1 fun _ => rfl, W.mg_of X G qb3z⟩
 have qb2s := qa1p (st := qa3r) qb2o qb2p qb2q
 have qb2g : Def K mg "_law_towers" qa3r ["_law_tape"] qa6s _ := ⟨qb2s, qb2s.binds (ps := ["_law_tape"]) fun _ _ _ _ _ _ => us1 fun _ => rfl, W.mg_of X G qb2n⟩
 have F_law := qa1p (st := qb1e) l_law c_law k_law
 have B : Bl mg := ⟨W.mg_none_of X G z_len, W.mg_none_of X G z_range, W.mg_none_of X G z_tuple, W.mg_none_of X G z_bool, W.mg_none_of X G z_isinstance, W.mg_none_of X G z_reversed, W.mg_none_of X G z_max, W.mg_none_of X G z_zip, W.mg_none_of X G z_list, W.mg_none_of X G z_str, W.mg_none_of X G z_enumerate, W.mg_none_of X G z_dict, W.mg_none_of X G z_sum, W.mg_none_of X G z_int, W.mg_none_of X G z_min, W.mg_none_of X G z_sorted, W.mg_none_of X G z_all, W.mg_none_of X G z_set, W.mg_none_of X G z_repr⟩
 have e_FORMS_0 : ∀ (S : Addr -> Prop) (H : Hp), AtD K H S (.tuple [.str "name", .int 0]) (.ref p_FORMS_0) := qa7e (vs := [.str "name", .int 0]) l_FORMS_0 rfl rfl (by show 2 <= sizeLine; decide) (.cons ⟨_, rfl⟩ (.cons ⟨_, rfl⟩ .nil)) (fun S H => by simp [qa0e, AtD])
 have e_FORMS_1 : ∀ (S : Addr -> Prop) (H : Hp), AtD K H S (.tuple [.str "name", .int 0]) (.ref p_FORMS_1) := qa7e (vs := [.str "name", .int 0]) l_FORMS_1 rfl rfl (by show 2 <= sizeLine; decide) (.cons ⟨_, rfl⟩ (.cons ⟨_, rfl⟩ .nil)) (fun S H => by simp [qa0e, AtD])
 have e_FORMS_2 : ∀ (S : Addr -> Prop) (H : Hp), AtD K H S (.tuple [.str "", .int 1]) (.ref p_FORMS_2) := qa7e (vs := [.str "", .int 1]) l_FORMS_2 rfl rfl (by show 2 <= sizeLine; decide) (.cons ⟨_, rfl⟩ (.cons ⟨_, rfl⟩ .nil)) (fun S H => by simp [qa0e, AtD])
 have e_FORMS_3 : ∀ (S : Addr -> Prop) (H : Hp), AtD K H S (.tuple [.str "", .int 2]) (.ref p_FORMS_3) := qa7e (vs := [.str "", .int 2]) l_FORMS_3 rfl rfl (by show 2 <= sizeLine; decide) (.cons ⟨_, rfl⟩ (.cons ⟨_, rfl⟩ .nil)) (fun S H => by simp [qa0e, AtD])
 have e_FORMS_4 : ∀ (S : Addr -> Prop) (H : Hp), AtD K H S (.tuple [.str "", .int 2]) (.ref p_FORMS_4) := qa7e (vs := [.str "", .int 2]) l_FORMS_4 rfl rfl (by show 2 <= sizeLine; decide) (.cons ⟨_, rfl⟩ (.cons ⟨_, rfl⟩ .nil)) (fun S H => by simp [qa0e, AtD])
 have e_FORMS_5 : ∀ (S : Addr -> Prop) (H : Hp), AtD K H S (.tuple [.str "step", .int 1]) (.ref p_FORMS_5) := qa7e (vs := [.str "step", .int 1]) l_FORMS_5 rfl rfl (by show 2 <= sizeLine; decide) (.cons ⟨_, rfl⟩ (.cons ⟨_, rfl⟩ .nil)) (fun S H => by simp [qa0e, AtD])
 have e_FORMS_6 : ∀ (S : Addr -> Prop) (H : Hp), AtD K H S (.tuple [.str "step", .int 1]) (.ref p_FORMS_6) := qa7e (vs := [.str "step", .int 1]) l_FORMS_6 rfl rfl (by show 2 <= sizeLine; decide) (.cons ⟨_, rfl⟩ (.cons ⟨_, rfl⟩ .nil)) (fun S H => by simp [qa0e, AtD])
 have e_FORMS_7 : ∀ (S : Addr -> Prop) (H : Hp), AtD K H S (.tuple [.str "name", .int 1]) (.ref p_FORMS_7) := qa7e (vs := [.str "name", .int 1]) l_FORMS_7 rfl rfl (by show 2 <= sizeLine; decide) (.cons ⟨_, rfl⟩ (.cons ⟨_, rfl⟩ .nil)) (fun S H => by simp [qa0e, AtD])
 have e_FORMS_8 : ∀ (S : Addr -> Prop) (H : Hp), AtD K H S (.tuple [.str "name", .int 1]) (.ref p_FORMS_8) := qa7e (vs := [.str "name", .int 1]) l_FORMS_8 rfl rfl (by show 2 <= sizeLine; decide) (.cons ⟨_, rfl⟩ (.cons ⟨_, rfl⟩ .nil)) (fun S H => by simp [qa0e, AtD])
 have e_FORMS_9 : ∀ (S : Addr -> Prop) (H : Hp), AtD K H S (.tuple [.str "hands", .int 2]) (.ref p_FORMS_9) := qa7e (vs := [.str "hands", .int 2]) l_FORMS_9 rfl rfl (by show 2 <= sizeLine; decide) (.cons ⟨_, rfl⟩ (.cons ⟨_, rfl⟩ .nil)) (fun S H => by simp [qa0e, AtD])
 have ti_FORMS : TabI K w mg "FORMS" ["fact", "wish", "not", "and", "or", "some", "every", "least", "most", "show"] := ⟨aT_FORMS, [("fact", .ref p_FORMS_0), ("wish", .ref p_FORMS_1), ("not", .ref p_FORMS_2), ("and", .ref p_FORMS_3), ("or", .ref p_FORMS_4), ("some", .ref p_FORMS_5), ("every", .ref p_FORMS_6), ("least", .ref p_FORMS_7), ("most", .ref p_FORMS_8), ("show", .ref p_FORMS_9)], W.mg_of X G a_FORMS, ⟨show (["fact", "wish", "not", "and", "or", "some", "every", "least", "most", "show"] : List Str).Nodup by decide +kernel, _, _, l_FORMS, (.cons (by rfl) (.cons (by rfl) (.cons (by rfl) (.cons (by rfl) (.cons (by rfl) (.cons (by rfl) (.cons (by rfl) (.cons (by rfl) (.cons (by rfl) (.cons (by rfl) .nil))))))))))⟩, sy_FORMS, rfl⟩
 have t_FORMS : Tab K w mg "FORMS" qc3n := by
  refine ⟨aT_FORMS, [("fact", .ref p_FORMS_0), ("wish", .ref p_FORMS_1), ("not", .ref p_FORMS_2), ("and", .ref p_FORMS_3), ("or", .ref p_FORMS_4), ("some", .ref p_FORMS_5), ("every", .ref p_FORMS_6), ("least", .ref p_FORMS_7), ("most", .ref p_FORMS_8), ("show", .ref p_FORMS_9)], W.mg_of X G a_FORMS, ⟨show (["fact", "wish", "not", "and", "or", "some", "every", "least", "most", "show"] : List Str).Nodup by decide +kernel, _, _, l_FORMS, (.cons (by rfl) (.cons (by rfl) (.cons (by rfl) (.cons (by rfl) (.cons (by rfl) (.cons (by rfl) (.cons (by rfl) (.cons (by rfl) (.cons (by rfl) (.cons (by rfl) .nil))))))))))⟩, ?_⟩
  refine tab_all (K := K) (l := [("fact", .tuple [.str "name", .int 0], .ref p_FORMS_0), ("wish", .tuple [.str "name", .int 0], .ref p_FORMS_1), ("not", .tuple [.str "", .int 1], .ref p_FORMS_2), ("and", .tuple [.str "", .int 2], .ref p_FORMS_3), ("or", .tuple [.str "", .int 2], .ref p_FORMS_4), ("some", .tuple [.str "step", .int 1], .ref p_FORMS_5), ("every", .tuple [.str "step", .int 1], .ref p_FORMS_6), ("least", .tuple [.str "name", .int 1], .ref p_FORMS_7), ("most", .tuple [.str "name", .int 1], .ref p_FORMS_8), ("show", .tuple [.str "hands", .int 2], .ref p_FORMS_9)]) (fun q hq => ?_)
  simp only [List.mem_cons, List.not_mem_nil, or_false] at hq
  rcases hq with rfl | rfl | rfl | rfl | rfl | rfl | rfl | rfl | rfl | rfl
  ·exact e_FORMS_0
  ·exact e_FORMS_1
  ·exact e_FORMS_2
  ·exact e_FORMS_3
  ·exact e_FORMS_4
  ·exact e_FORMS_5
  ·exact e_FORMS_6
  ·exact e_FORMS_7
  ·exact e_FORMS_8
  ·exact e_FORMS_9
 have m_LONGEST_NAME : ∃ t, mg "LONGEST_NAME" = some (.int 8 t) := ⟨_, W.mg_of X G a_LONGEST_NAME⟩
 have m_MOST_HANDS : ∃ t, mg "MOST_HANDS" = some (.int 4 t) := ⟨_, W.mg_of X G a_MOST_HANDS⟩
 have m_MOST_THINGS : ∃ t, mg "MOST_THINGS" = some (.int 60 t) := ⟨_, W.mg_of X G a_MOST_THINGS⟩
 have m_MOST_BINDERS : ∃ t, mg "MOST_BINDERS" = some (.int 4 t) := ⟨_, W.mg_of X G a_MOST_BINDERS⟩
 have m_MOST_SHOWS : ∃ t, mg "MOST_SHOWS" = some (.int 3 t) := ⟨_, W.mg_of X G a_MOST_SHOWS⟩
 refine ⟨W.fnOf "law" "law" (qa1b qb1e) (qa0x qb1e) (qa0h qb1e) .none kV_law dc_law pm_law an_law cd_law ct_law, fun s v => .of_eq rfl, fun base _ _ => ?_⟩
 have gn : FnOk P w K mg base CX0 3 qa8g _ _ _ := ok_next qb7i B qa4p qb5i
 have gL : FnOk P w K mg base CX0 4 qa5d _ _ (spD K qd1w) := qe7k qa8s B qa0l gn
 have gB : ∀ m : Nat, FnOk P w K mg base CX0 (5 + m) qa8n _ _ (spD K (qc3p m)) := fun m => by
  induction m with
  | zero => exact qc0e fun ls Q h => by obtain ⟨_, _, _, _, _, _, hd, h2, _⟩ := h; obtain ⟨_, e⟩ := hd.pos; omega
  | succ m ih => exact ok_bent qb7l B qa0l (n := 5 + m) (gn.mono (by omega : 3 <= 5 + m)) qa8e (gL.mono (by omega : 4 <= 5 + m)) qa4z ih
 have gN : FnOk P w K mg base CX0 1 f_is_name _ _ (spD K qb0b) := ok_name F_is_name B m_LONGEST_NAME
 have gR : FnOk P w K mg base CX0 2 f_are_rising_names _ _ (spD K qd1b) := ok_rise F_are_rising_names B d_is_name gN
 have gH : FnOk P w K mg base CX0 3 f_is_hands _ _ (spD K qa7p) := qe6s F_is_hands B m_MOST_HANDS d_are_rising_names gR
 have gS : FnOk P w K mg base CX0 4 f_is_step _ _ (spD K qb4q) := ok_step F_is_step B d_is_hands gH
 have gM : FnOk P w K mg base CX0 1 qa7g _ _ (spD K qb0b) := qe6u qb4e B
 have gA : FnOk P w K mg base CX0 2 qa5e _ _ (spD K qa7p) := ok_areh qa8t B qa5g gM
 have gT : FnOk P w K mg base CX0 3 qa6c _ _ (spD K qb4q) := qe6v qb0v B qa3v gA
 have h1 : FnOk P w K mg base CX0 1 f_head_of _ _ (spD K qd1i) := ok_head F_head_of B
 have h2 : FnOk P w K mg base CX0 5 f_is_taken _ _ (spD K qc4q) := qe6x F_is_taken B d_is_name (gN.mono (by decide : 1 <= 4)) d_is_step gS d_is_hands (gH.mono (by decide : 3 <= 4))
 have h3 : FnOk P w K mg base CX0 6 f_has_form _ _ (spD K qd1j) := ok_form F_has_form B d_is_taken h2
 have h4 : FnOk P w K mg base CX0 7 f_is_formed _ _ (spD K qc1q) := qe4q F_is_formed B t_FORMS ti_FORMS d_head_of (h1.mono (by decide : 1 <= 6)) d_has_form h3
 have h5 : FnOk P w K mg base CX0 7 f_parts_of _ _ (spD K qd1k) := ok_kids F_parts_of B t_FORMS
 have h6 : FnOk P w K mg base CX0 1 f_is_binder _ _ (spD K spIsB) := qd1n F_is_binder B
 have h7 : FnOk P w K mg base CX0 2 f_names_bound _ _ (spD K qc0h) := qe6z F_names_bound B d_is_binder h6
 have h8 : FnOk P w K mg base CX0 2 f_may_wish _ _ (spD K qd1l) := ok_wish F_may_wish B d_is_binder h6
 have h9 : FnOk P w K mg base CX0 3 f_may_begin _ _ (spD K qc4s) := qe7b F_may_begin B m_MOST_BINDERS m_MOST_SHOWS d_names_bound h7
 have i1 : FnOk P w K mg base CX0 3 f_may_take _ _ (spD K qd1q) := ok_take F_may_take B d_names_bound h7 d_may_wish h8
 have i2 : FnOk P w K mg base CX0 4 f_may_stand _ _ (spD K qc4t) := qe7c F_may_stand B d_may_begin h9 d_may_take i1
 have i3 : FnOk P w K mg base CX0 8 f_is_sentence _ _ (spD K qd1r) := ok_sent F_is_sentence B m_MOST_THINGS d_is_formed h4 d_may_stand (i2.mono (by decide : 4 <= 7)) d_parts_of h5
 have i4 : ∀ m : Nat, FnOk P w K mg base CX0 (5 + m) qa6r _ _ (spD K (qb5m m)) := fun m => by
  induction m with
  | zero => exact qc0e fun ls Q h => by obtain ⟨h, _, _, _, _, _, _, _, hd, h2, _⟩ := h; have e : h = 0 := (by omega); subst e; exact hd
  | succ m ih => exact qe4s qb2r B qa5g (n := 5 + m) (gM.mono (by omega : 1 <= 5 + m)) qa3v (gA.mono (by omega : 2 <= 5 + m)) qb0e (gT.mono (by omega : 3 <= 5 + m)) qa2s ih
 have i5 : FnOk P w K mg base CX0 86 qa3x _ _ (spD K (qc4v 80)) := qe7j qa7b B qa2s (i4 80)
 have i6 : FnOk P w K mg base CX0 4 qa7f _ _ (spD K qb5p) := qe4t qb4d B qa0l gn
 have i7 : FnOk P w K mg base CX0 5 qa8h _ _ (spD K qc4w) := qe4u qb7j B qa0l (gn.mono (by decide : 3 <= 4)) qa6e i6
 have i8 : FnOk P w K mg base CX0 4 qa8i _ _ (spD K qc0i) := qe7l qb7k B qa0l gn
 have i9 : ∀ m : Nat, FnOk P w K mg base CX0 (5 + m) qa5p _ _ (spD K (spSen m)) := fun m => by
  induction m with
  | zero => exact qc0e fun ls Q h => by obtain ⟨_, _, _, _, _, _, _, h1, h2, _⟩ := h; omega
  | succ m ih => exact qd4v qa9p B qa0l qa6e qb5q qb5r qa1r (n := 5 + m) (gn.mono (by omega : 3 <= 5 + m)) (i6.mono (by omega : 4 <= 5 + m)) (i7.mono (by omega : 5 <= 5 + m)) (i8.mono (by omega : 4 <= 5 + m)) ih
 have b0 : FnOk P w K mg base CX0 2 qa2u _ _ (spD K (qa5n 0)) := qe4v (N := fun _ _ => False) qa3n B qa1h (fun _ _ h => h) (qc0e fun ls Q h => h)
 have b1 : FnOk P w K mg base CX0 3 qa2u _ _ (spD K (qa5n 1)) := qa9k qa3n B qa1h b0
 have b2 : FnOk P w K mg base CX0 4 qa2u _ _ (spD K (qa5n 2)) := qa9k qa3n B qa1h b1
 have b3 : FnOk P w K mg base CX0 5 qa2u _ _ (spD K (qa5n 3)) := qa9k qa3n B qa1h b2
 have b4 : FnOk P w K mg base CX0 6 qa2u _ _ (spD K (qa5n 4)) := qa9k qa3n B qa1h b3
 have b5 : FnOk P w K mg base CX0 7 qa2u _ _ (spD K (qa5n 5)) := qa9k qa3n B qa1h b4
 have b6 : FnOk P w K mg base CX0 8 qa2u _ _ (spD K (qa5n 6)) := qa9k qa3n B qa1h b5
 have j2 : FnOk P w K mg base CX0 9 qa6s _ _ (spD K spTow) := ok_tow qb2s B qa0l (gn.mono (by decide : 3 <= 8)) qa1h b6
 exact ok_law F_law B qa0l (gn.mono (by decide : 3 <= 105)) qb2g (j2.mono (by decide : 9 <= 105)) qa1r ((i9 24).mono (by decide : 5 + 24 <= 105)) qa4z ((gB 30).mono (by decide : 5 + 30 <= 105)) d_is_sentence (i3.mono (by decide : 8 <= 105)) qa5j (i5.mono (by decide : 86 <= 105))
end K06
/- the program's own table, as it stands -/
noncomputable def PySem.W.Fast.tw14455757311987250497 : PySem.Program := PySem.Challenge.pw_worldsay_k06_what_is_a_sentence
theorem PySem.W.Fast.te14455757311987250497 : PySem.Challenge.pw_worldsay_k06_what_is_a_sentence = PySem.W.Fast.tw14455757311987250497 := rfl
open PySem PySem.W PyProof.Rows
set_option maxRecDepth 100000 in
set_option maxHeartbeats 0 in
theorem PySem.Challenge.cw_worldsay_k06_what_is_a_sentence_holds : PySem.Challenge.rw_worldsay_k06_what_is_a_sentence.Holds := by
 w_on; o_law; k_head; (case hw => w_witness2)
 k_fill
 refine L2.walk_of (l := PySem.Challenge.rw_worldsay_k06_what_is_a_sentence) (n := 63) (k := 106) (x := "_law_script") (CX := fun _ => L2.CX0) (sp := fun w => L2.spLaw (_ : PySem.W.Frag)) rfl (by decide) rfl ⟨rfl, by decide, by decide, rfl⟩ (fun w h Y => PySem.W.kIn_of Y) ?F (fun w H a ns hl hO hS => ⟨a, ns, rfl, hS, hO, hl, fun _ => rfl⟩) (fun _ _ _ _ _ z => z)
 case F =>
  intro w mg fa h KX G hmg
  refine' K06.all_mk KX G hmg ?qb8x ?qb8y ?qb8z ?qb9a ?qa6n ?qa6o ?qa6p ?qa6q ?qb5t ?qb5u ?qb5v ?qb5w ?qb9b ?qb9c ?qb9d ?qb9e ?qb0f ?qb0g ?qb0h ?qb0i ?qb3b ?qb3c ?qb3d ?qb3e ?qb9g ?qb9h ?qb9i ?qb9j ?qb5x ?qb5y ?qb5z ?qb6a ?qb6b ?qb6c ?qb6d ?qb6e ?qb6f ?qb6g ?qb6h ?qb6i ?qb3f ?qb3g ?qb3h ?qb3i ?qb3j ?qb3k ?qb3l ?qb3m ?qb3n ?qb3o ?qb3p ?qb3q ?qb6j ?qb6k ?qb6l ?qb6m ?qb6n ?qb6o ?qb6p ?qb6q ?qb0j ?qb0k ?qb0l ?qb0m ?qb0n ?qb0o ?qb0p ?qb0q ?qc1t ?qc1u ?qc1v ?qc1w ?qb6s ?qb6t ?qb6u ?qb6v ?qb3r ?qb3s ?qb3t ?qb3u ?qb6w ?qb6x ?qb6y ?qb6z ?qb7a ?qb7b ?qb7c ?qb7d ?qa9l ?qa9m ?qa9n ?qa9o ?qa8j ?qa8k ?qa8l ?qa8m ?qb7e ?qb7f ?qb7g ?qb7h ?qb3v ?qb3w ?qb3x ?qb3y ?qa8o ?qa8p ?qa8q ?qa8r ?qb0r ?qb0s ?qb0t ?qb0u ?qb2j ?qb2k ?qb2l ?qb2m ?qa6x ?qa6y ?qa6z ?qa7a ?qb3z ?qb4a ?qb4b ?qb4c ?qb2n ?qb2o ?qb2p ?qb2q ?a_law ?l_law ?c_law ?k_law ?z_len ?z_range ?z_tuple ?z_bool ?z_isinstance ?z_reversed ?z_max ?z_zip ?z_list ?z_str ?z_enumerate ?z_dict ?z_sum ?z_int ?z_min ?z_sorted ?z_all ?z_set ?z_repr ?a_FORMS ?l_FORMS ?l_FORMS_0 ?l_FORMS_1 ?l_FORMS_2 ?l_FORMS_3 ?l_FORMS_4 ?l_FORMS_5 ?l_FORMS_6 ?l_FORMS_7 ?l_FORMS_8 ?l_FORMS_9 ?sy_FORMS ?a_LONGEST_NAME ?a_MOST_HANDS ?a_MOST_THINGS ?a_MOST_BINDERS ?a_MOST_SHOWS
  (case qb8x => k_is)
  (case qb8y => k_is)
  (case qb8z => k_is)
  (case qb9a => k_is)
  (case qa6n => k_is)
  (case qa6o => k_is)
  (case qa6p => k_is)
  (case qa6q => k_is)
  (case qb5t => k_is)
  (case qb5u => k_is)
  (case qb5v => k_is)
  (case qb5w => k_is)
  (case qb9b => k_is)
  (case qb9c => k_is)
  (case qb9d => k_is)
  (case qb9e => k_is)
  (case qb0f => k_is)
  (case qb0g => k_is)
  (case qb0h => k_is)
  (case qb0i => k_is)
  (case qb3b => k_is)
  (case qb3c => k_is)
  (case qb3d => k_is)
  (case qb3e => k_is)
  (case qb9g => k_is)
  (case qb9h => k_is)
  (case qb9i => k_is)
  (case qb9j => k_is)
  (case qb5x => k_is)
  (case qb5y => k_is)
  (case qb5z => k_is)
  (case qb6a => k_is)
  (case qb6b => k_is)
  (case qb6c => k_is)
  (case qb6d => k_is)
  (case qb6e => k_is)
  (case qb6f => k_is)
  (case qb6g => k_is)
  (case qb6h => k_is)
  (case qb6i => k_is)
  (case qb3f => k_is)
  (case qb3g => k_is)
  (case qb3h => k_is)
  (case qb3i => k_is)
  (case qb3j => k_is)
  (case qb3k => k_is)
  (case qb3l => k_is)
  (case qb3m => k_is)
  (case qb3n => k_is)
  (case qb3o => k_is)
  (case qb3p => k_is)
  (case qb3q => k_is)
  (case qb6j => k_is)
  (case qb6k => k_is)
  (case qb6l => k_is)
  (case qb6m => k_is)
  (case qb6n => k_is)
  (case qb6o => k_is)
  (case qb6p => k_is)
  (case qb6q => k_is)
  (case qb0j => k_is)
  (case qb0k => k_is)
  (case qb0l => k_is)
  (case qb0m => k_is)
  (case qb0n => k_is)
  (case qb0o => k_is)
  (case qb0p => k_is)
  (case qb0q => k_is)
  (case qc1t => k_is)
  (case qc1u => k_is)
  (case qc1v => k_is)
  (case qc1w => k_is)
  (case qb6s => k_is)
  (case qb6t => k_is)
  (case qb6u => k_is)
  (case qb6v => k_is)
  (case qb3r => k_is)
  (case qb3s => k_is)
  (case qb3t => k_is)
  (case qb3u => k_is)
  (case qb6w => k_is)
  (case qb6x => k_is)
  (case qb6y => k_is)
  (case qb6z => k_is)
  (case qb7a => k_is)
  (case qb7b => k_is)
  (case qb7c => k_is)
  (case qb7d => k_is)
  (case qa9l => k_is)
  (case qa9m => k_is)
  (case qa9n => k_is)
  (case qa9o => k_is)
  (case qa8j => k_is)
  (case qa8k => k_is)
  (case qa8l => k_is)
  (case qa8m => k_is)
  (case qb7e => k_is)
  (case qb7f => k_is)
  (case qb7g => k_is)
  (case qb7h => k_is)
  (case qb3v => k_is)
  (case qb3w => k_is)
  (case qb3x => k_is)
  (case qb3y => k_is)
  (case qa8o => k_is)
  (case qa8p => k_is)
  (case qa8q => k_is)
  (case qa8r => k_is)
  (case qb0r => k_is)
  (case qb0s => k_is)
  (case qb0t => k_is)
  (case qb0u => k_is)
  (case qb2j => k_is)
  (case qb2k => k_is)
  (case qb2l => k_is)
  (case qb2m => k_is)
  (case qa6x => k_is)
  (case qa6y => k_is)
  (case qa6z => k_is)
  (case qa7a => k_is)
  (case qb3z => k_is)
  (case qb4a => k_is)
  (case qb4b => k_is)
  (case qb4c => k_is)
  (case qb2n => k_is)
  (case qb2o => k_is)
  (case qb2p => k_is)
  (case qb2q => k_is)
  (case a_law => k_is)
  (case l_law => k_is)
  (case c_law => k_is)
  (case k_law => k_is)
  (case z_len => k_is)
  (case z_range => k_is)
  (case z_tuple => k_is)
  (case z_bool => k_is)
  (case z_isinstance => k_is)
  (case z_reversed => k_is)
  (case z_max => k_is)
  (case z_zip => k_is)
  (case z_list => k_is)
  (case z_str => k_is)
  (case z_enumerate => k_is)
  (case z_dict => k_is)
  (case z_sum => k_is)
  (case z_int => k_is)
  (case z_min => k_is)
  (case z_sorted => k_is)
  (case z_all => k_is)
  (case z_set => k_is)
  (case z_repr => k_is)
  (case a_FORMS => k_is)
  (case l_FORMS => k_is)
  (case l_FORMS_0 => k_is)
  (case l_FORMS_1 => k_is)
  (case l_FORMS_2 => k_is)
  (case l_FORMS_3 => k_is)
  (case l_FORMS_4 => k_is)
  (case l_FORMS_5 => k_is)
  (case l_FORMS_6 => k_is)
  (case l_FORMS_7 => k_is)
  (case l_FORMS_8 => k_is)
  (case l_FORMS_9 => k_is)
  (case sy_FORMS => first | decide | rfl | k_is)
  (case a_LONGEST_NAME => k_is)
  (case a_MOST_HANDS => k_is)
  (case a_MOST_THINGS => k_is)
  (case a_MOST_BINDERS => k_is)
  (case a_MOST_SHOWS => k_is)
end
end
