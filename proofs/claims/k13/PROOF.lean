import PyProof.Rows.All
import Wide.All
import OpenK.AllK
import Wide.FinOn
import Lean
import PyProof.EqAt
import PyProof.EqKinds
import PyProof.TupleCall
import PyProof.NeKinds
import PySem.Challenge.RW_surecall_k13_by_the_tree
set_option Elab.async false
set_option linter.all false
set_option maxRecDepth 100000
theorem lqm {α β : Type} {f : α -> β} {l : List α} : (l.map f).length = l.length := by simp
section
namespace L2
open PySem PySem.Spec PyProof.Rows
abbrev Key := Sum Int Str
def zs5 : Key -> Value -> Bool
 | .inl k, v => Value.isInt k v
 | .inr x, v => Value.isStrOf x v
def keyH (w : World) : Key -> Int
 | .inl k => hashInt k
 | .inr x => hashStr w x
theorem zf2 : ∀ {k : Key} {v : Value}, zs5 k v = true -> (∃ i t, k = Sum.inl i /\ v = Value.int i t) ∨ (∃ x t, k = Sum.inr x /\ v = Value.str x t)
 | .inl i, v, h => by
  obtain ⟨t, e⟩ := Value.isInt_shape (k := i) (v := v) h
  exact .inl ⟨i, t, rfl, e⟩
 | .inr x, v, h => by
  obtain ⟨t, e⟩ := Value.isStrOf_shape (x := x) (v := v) h
  exact .inr ⟨x, t, rfl, e⟩
theorem xj5 (i : Int) (t : Tok) : zs5 (.inl i) (.int i t) = true := by simp [zs5, Value.isInt]
theorem xf5 (x : Str) (t : Tok) : zs5 (.inr x) (.str x t) = true := by simp [zs5, Value.isStrOf]
theorem key_ll (a b : Int) : decide ((Sum.inl a : Key) = Sum.inl b) = (a == b) := by
 by_cases e : a = b
 ·subst e; simp
 ·have h : ¬ (Sum.inl a : Key) = Sum.inl b := fun q => e (Sum.inl.inj q)
  rw [decide_eq_false h]
  exact (beq_eq_false_iff_ne.mpr e).symm
theorem key_rr (a b : Str) : decide ((Sum.inr a : Key) = Sum.inr b) = decide (a = b) := by
 by_cases e : a = b
 ·subst e; simp
 ·have h : ¬ (Sum.inr a : Key) = Sum.inr b := fun q => e (Sum.inr.inj q)
  rw [decide_eq_false h, decide_eq_false e]
theorem key_lr (a : Int) (b : Str) : decide ((Sum.inl a : Key) = Sum.inr b) = false := decide_eq_false (fun q => nomatch q)
theorem key_rl (a : Str) (b : Int) : decide ((Sum.inr a : Key) = Sum.inl b) = false := decide_eq_false (fun q => nomatch q)
def zd0 (prog : Program) (w : World) : PySem.KeyKind prog w Key where
 is := zs5
 hash := keyH w
 inj := fun v a b ha hb => by
  rcases zf2 ha with ⟨i, t, rfl, rfl⟩ | ⟨x, t, rfl, rfl⟩
  ·rcases zf2 hb with ⟨j, u, rfl, e⟩ | ⟨y, u, rfl, e⟩
   ·injection e with e1 _; rw [e1]
   ·exact nomatch e
  ·rcases zf2 hb with ⟨j, u, rfl, e⟩ | ⟨y, u, rfl, e⟩
   ·exact nomatch e
   ·injection e with e1 _; rw [e1]
 byValue := fun k v h => by
  rcases zf2 h with ⟨i, t, rfl, rfl⟩ | ⟨x, t, rfl, rfl⟩ <;> rfl
 pyHash := fun hv h => by
  rcases zf2 hv with ⟨i, t, rfl, rfl⟩ | ⟨x, t, rfl, rfl⟩
  ·exact wpAny_pyHash_int h
  ·exact wpAny_pyHash_str h
 eqBool := fun hu hv h => by
  rcases zf2 hu with ⟨i, t, rfl, rfl⟩ | ⟨x, t, rfl, rfl⟩
  ·rcases zf2 hv with ⟨j, u, rfl, rfl⟩ | ⟨y, u, rfl, rfl⟩
   ·rw [key_ll] at h; exact wpAny_eqBool_int h
   ·rw [key_lr] at h; exact SeqAt.EqAt.int_str i t y u _ _ _ _ h
  ·rcases zf2 hv with ⟨j, u, rfl, rfl⟩ | ⟨y, u, rfl, rfl⟩
   ·rw [key_rl] at h; exact SeqAt.EqAt.str_int x t j u _ _ _ _ h
   ·rw [key_rr] at h; exact wpAny_eqBool_str h
 «strs» := fun k x t v h => by
  rcases zf2 h with ⟨i, u, rfl, e⟩ | ⟨y, u, rfl, e⟩
  ·exact nomatch e
  ·injection e with e1 _
   subst e1
   cases v <;> rfl
theorem yn6 (prog : Program) (w : World) (i : Int) (t : Tok) : (zd0 prog w).is (.inl i) (.int i t) = true := xj5 i t
theorem ym4 (prog : Program) (w : World) (x : Str) (t : Tok) : (zd0 prog w).is (.inr x) (.str x t) = true := xf5 x t
end L2
namespace L2
open PySem PySem.Spec PyProof.Rows
inductive V where
 | non | bl (b : Bool) | int (i : Int) | str (x : Str) | byt (b : Array UInt8) | flt (b : UInt64) | ref (a : Addr) | ty (n : String)
 deriving DecidableEq
def RelV : V -> Value -> Prop
 | .non, u => u = Value.none
 | .bl b, u => u = Value.bool b
 | .int i, u => ∃ t, u = Value.int i t
 | .str x, u => ∃ t, u = Value.str x t
 | .byt b, u => ∃ t, u = Value.bytes b t
 | .flt b, u => ∃ t, u = Value.float b t
 | .ref a, u => u = Value.ref a
 | .ty n, u => u = Value.type n
abbrev Vals : List V -> List Value -> Prop := Paired RelV
theorem Vals.length {xs : List V} {us : List Value} (r : Vals xs us) : xs.length = us.length := Paired.length r
theorem Vals.get : ∀ {xs : List V} {us : List Value} {i : Nat} {x : V}, Vals xs us -> xs[i]? = some x -> ∃ u, us[i]? = some u /\ RelV x u
 | _, _, _, _, .nil, e => by simp at e
 | _, _, 0, _, .cons r _, e => by simp at e; subst e; exact ⟨_, rfl, r⟩
 | _, _, i + 1, x, .cons _ t, e => by
  obtain ⟨u, h1, h2⟩ := Vals.get (i := i) (x := x) t (by simpa using e)
  exact ⟨u, by simpa using h1, h2⟩
theorem Vals.set {x : V} {u : Value} (r : RelV x u) : ∀ {xs : List V} {us : List Value} (i : Nat), Vals xs us -> Vals (xs.set i x) (us.set i u)
 | _, _, _, .nil => .nil
 | _, _, 0, .cons _ t => .cons r t
 | _, _, i + 1, .cons q t => .cons q (Vals.set r i t)
theorem Vals.append : ∀ {xs ys : List V} {us ws : List Value}, Vals xs us -> Vals ys ws -> Vals (xs ++ ys) (us ++ ws)
 | _, _, _, _, .nil, s => s
 | _, _, _, _, .cons r t, s => .cons r (Vals.append t s)
theorem Vals.take : ∀ {xs : List V} {us : List Value} (n : Nat), Vals xs us -> Vals (xs.take n) (us.take n)
 | _, _, 0, _ => .nil
 | _, _, _ + 1, .nil => .nil
 | _, _, n + 1, .cons r t => .cons r (Vals.take n t)
theorem Vals.drop : ∀ {xs : List V} {us : List Value} (n : Nat), Vals xs us -> Vals (xs.drop n) (us.drop n)
 | _, _, 0, r => r
 | _, _, _ + 1, .nil => .nil
 | _, _, n + 1, .cons _ t => Vals.drop n t
def RelO : Option V -> Option Value -> Prop
 | some v, some u => RelV v u
 | none, none => True
 | _, _ => False
def KV {κ : Type} : List (κ × V) -> List (κ × Value) -> Prop := Paired fun (p : κ × V) (q : κ × Value) => p.1 = q.1 /\ RelV p.2 q.2
def kV : Key -> V
 | .inl i => .int i
 | .inr x => .str x
inductive HO where
 /-- a list -/
 | lst (xs : List V)
 /-- a tuple (never changes) -/
 | tup (xs : List V)
 /-- a dict whose keys are ints and texts; one whose keys are tuples of ints and texts (the empty one is both) -/
 | dK (kvs : List (Key × V)) | dT (kvs : List (List Key × V))
 /-- a set of ints: its members, its size -/
 | set (S : Int -> Bool) (n : Nat)
 /-- an instance of the class at C, its dict at dx, its attributes -/
 | ins (C dx : Addr) (fs : List (Str × V))
 /-- the dict of the instance at x -/
 | own (x : Addr)
 /-- the dict of an exception -/
 | xd (fs : List (Str × V))
 /-- a bound method, f of x -/
 | met (f x : Addr)
 /-- a range object lo, lo + 1, .. below hi -/
 | rng (lo hi : Int)
 /-- a thing that is known to the object (the script; a dict while a loop walks it): read, never written while it is so -/
 | frz (o : Obj) (u : HO)
 /-- a code object's table -/
 | tbl (ps : Array Value)
 /-- any other thing, by what is true of its one object (a def of one's own: SetO a S n := HO.ext fun h => ..) -/
 | ext (φ : Heap -> Prop)
abbrev Hp := Addr -> Option HO
def upd (H : Hp) (a : Addr) (o : HO) : Hp := fun b => if b = a then some o else H b
theorem zb1 {H : Hp} {a : Addr} {o : HO} : upd H a o a = some o := by unfold upd; rw [if_pos rfl]
theorem zb5 {H : Hp} {a b : Addr} {o : HO} (h : b ≠ a) : upd H a o b = H b := by unfold upd; rw [if_neg h]
theorem zs3 {H : Hp} {a : Addr} {o u : HO} : upd (upd H a o) a u = upd H a u := by
 funext b; unfold upd; split <;> rfl
theorem ne_of {H : Hp} {a b : Addr} {o u : HO} (h : H a = some o) (h' : H b = some u) (d : o ≠ u) : a ≠ b := by
 intro e; subst e; rw [h] at h'; exact d (Option.some.inj h')
theorem zb4 {H : Hp} {a b : Addr} {o : HO} (h : H a = some o) (h' : H b = none) : a ≠ b := by
 intro e; subst e; rw [h] at h'; cases h'
def DN (h : Heap) (a : Addr) : Prop := ∃ o, h.get? a = some o /\ o.dict = none
section
variable (P : Program) (w : World)
def ObjOk (H : Hp) (h : Heap) (a : Addr) : HO -> Prop
 | .lst xs => xs.length <= sizeLine /\ ∃ (its : List Value) (n : Nat), Vals xs its /\ h.get? a = some { cls := .type "list", data := .seq its.toArray n }
 | .tup xs => (xs.length <= sizeLine /\ DN h a) /\ ∃ its : List Value, Vals xs its /\ IsTup h a its.toArray
 | .dK kvs => kvs.length <= sizeLine /\ (a == sysModules) = false /\ ∃ vs, KV kvs vs /\ h.DictOf (zd0 P w) a vs
 | .dT kvs => kvs.length <= sizeLine /\ (a == sysModules) = false /\ ∃ xs : List (List Key × Addr × Value),
   Paired (fun (p : List Key × V) (q : List Key × Addr × Value) => p.1 = q.1 /\ H q.2.1 = some (.tup (p.1.map kV)) /\ RelV p.2 q.2.2) kvs xs /\
   ∃ o es ep, h.get? a = some o /\ o.ExactDict /\ o.data = .dict es ep /\ es.toList = xs.map (entryOfKey (tupleKind (zd0 P w))) /\ (xs.map (·.1)).Nodup
 | .set S n => h.SetOf (intKind P w) a S n
 | .ins C dx fs => H dx = some (.own a) /\ fs.length <= 1000 /\ dx ≠ a /\ h.get? a = some (PySem.W.instObj C dx) /\
   ∃ mA, h.Ns1 dx mA /\ (∀ f, RelO (fs.lookup f) (mA f)) /\ PySem.Within mA (fs.map (·.1))
 | .own _ => ∃ o, h.get? a = some o
 | .xd fs => ∃ mA, h.Ns1 a mA /\ ∀ f, RelO (fs.lookup f) (mA f)
 | .rng lo hi => ∃ t u v, h.get? a = some { cls := .type "range", data := .fields #[.int lo t, .int hi u, .int 1 v] }
 | .frz o u => h.get? a = some o /\ ObjOk H h a u
 | .tbl ps => h.get? a = some { cls := .none, data := .fields ps }
 | .met f x => h.get? a = some (PySem.W.methodObj (.ref f) (.ref x))
 | .ext φ => φ h /\ (∃ o, h.get? a = some o) /\ ∀ h1 h2 : Heap, φ h1 -> (∀ o, h1.get? a = some o -> h2.get? a = some o) -> φ h2
def HOk (H : Hp) (h : Heap) : Prop := ∀ a o, H a = some o -> ObjOk P w H h a o
end
section
variable {P : Program} {w : World} {H H' : Hp} {h h' : Heap} {a : Addr} {o : HO}
theorem ObjOk.lt (x : ObjOk P w H h a o) : a < h.objs.size := by
 cases o with
 | lst xs => obtain ⟨_, _, _, _, e⟩ := x; exact Heap.lt_size e
 | tup xs => obtain ⟨_, _, _, p⟩ := x; exact p.lt
 | dK kvs => obtain ⟨_, _, _, _, o, _, _, e, _⟩ := x; exact Heap.lt_size e
 | dT kvs => obtain ⟨_, _, _, _, o, _, _, e, _⟩ := x; exact Heap.lt_size e
 | set S n => obtain ⟨o, _, _, _, e, _⟩ := x; exact Heap.lt_size e
 | ins C dx fs => obtain ⟨_, _, _, e, _⟩ := x; exact Heap.lt_size e
 | own y => obtain ⟨_, e⟩ := x; exact Heap.lt_size e
 | xd fs => obtain ⟨_, ⟨_, _, _, e, _⟩, _⟩ := x; exact Heap.lt_size e
 | rng lo hi => obtain ⟨_, _, _, e⟩ := x; exact Heap.lt_size e
 | frz ob u => obtain ⟨e, _⟩ := x; exact Heap.lt_size e
 | tbl ps => exact Heap.lt_size (show h.get? a = some _ from x)
 | met f y => exact Heap.lt_size (show h.get? a = some _ from x)
 | ext φ => obtain ⟨_, ⟨_, e⟩, _⟩ := x; exact Heap.lt_size e
theorem Paired.mapP {α β : Type} {F G : α -> β -> Prop} : ∀ {l₁ : List α} {l₂ : List β}, Paired F l₁ l₂ -> (∀ a b, F a b -> G a b) -> Paired G l₁ l₂
 | _, _, .nil, _ => .nil
 | _, _, .cons r t, f => .cons (f _ _ r) (Paired.mapP t f)
theorem ObjOk.stay (x : ObjOk P w H h a o) (k : ∀ b u, (b = a ∨ H b = some (.own a)) -> h.get? b = some u -> h'.get? b = some u)
  (ho : ∀ b, H b = some (.own a) -> H' b = some (.own a)) (ht : ∀ b xs, H b = some (.tup xs) -> H' b = some (.tup xs)) : ObjOk P w H' h' a o := by
 induction o with
 | lst xs => obtain ⟨z, its, n, r, e⟩ := x; exact ⟨z, its, n, r, k _ _ (.inl rfl) e⟩
 | tup xs => obtain ⟨⟨z, od, e0, c0⟩, y⟩ := x; obtain ⟨its, r, ob, e, c⟩ := y; exact ⟨⟨z, od, k _ _ (.inl rfl) e0, c0⟩, its, r, ob, k _ _ (.inl rfl) e, c⟩
 | dK kvs => obtain ⟨z, y, vs, r, ob, es, ep, e, c⟩ := x; exact ⟨z, y, vs, r, ob, es, ep, k _ _ (.inl rfl) e, c⟩
 | dT kvs =>
  obtain ⟨z, y, xs, r, ob, es, ep, e, c⟩ := x
  exact ⟨z, y, xs, Paired.mapP r fun p q z => ⟨z.1, ht _ _ z.2.1, z.2.2⟩, ob, es, ep, k _ _ (.inl rfl) e, c⟩
 | set S n => obtain ⟨ob, es, ep, t, e, c⟩ := x; exact ⟨ob, es, ep, t, k _ _ (.inl rfl) e, c⟩
 | ins C dx fs =>
  obtain ⟨d, z, ne, e, mA, ⟨od, es, ep, e2, c⟩, r⟩ := x
  exact ⟨ho _ d, z, ne, k _ _ (.inl rfl) e, mA, ⟨od, es, ep, k _ _ (.inr d) e2, c⟩, r⟩
 | own y => obtain ⟨ob, e⟩ := x; exact ⟨ob, k _ _ (.inl rfl) e⟩
 | xd fs => obtain ⟨mA, ⟨od, es, ep, e, c⟩, r⟩ := x; exact ⟨mA, ⟨od, es, ep, k _ _ (.inl rfl) e, c⟩, r⟩
 | rng lo hi => obtain ⟨t, u, v, e⟩ := x; exact ⟨t, u, v, k _ _ (.inl rfl) e⟩
 | frz ob u ih => obtain ⟨e, q⟩ := x; exact ⟨k _ _ (.inl rfl) e, ih q⟩
 | tbl ps =>
  have e : h.get? a = some { cls := .none, data := .fields ps } := x
  show h'.get? a = some { cls := .none, data := .fields ps }
  exact k a _ (.inl rfl) e
 | met f y =>
  have e : h.get? a = some (PySem.W.methodObj (.ref f) (.ref y)) := x
  show h'.get? a = some (PySem.W.methodObj (.ref f) (.ref y))
  exact k a _ (.inl rfl) e
 | ext φ => obtain ⟨p, ⟨o, e⟩, st⟩ := x; exact ⟨st _ _ p fun o q => k _ _ (.inl rfl) q, ⟨o, k _ _ (.inl rfl) e⟩, st⟩
theorem HOk.lt (x : HOk P w H h) (e : H a = some o) : a < h.objs.size := (x a o e).lt
theorem HOk.fresh (x : HOk P w H h) (e : h.objs.size <= a) : H a = none := by
 cases q : H a with
 | none => rfl
 | some u => exact absurd (Nat.lt_of_lt_of_le (x.lt q) e) (Nat.lt_irrefl _)
theorem HOk.kept (x : HOk P w H h) (k : ∀ b u, h.get? b = some u -> h'.get? b = some u) : HOk P w H h' := fun a o e =>
 (x a o e).stay (fun b u _ q => k b u q) (fun _ q => q) fun _ _ q => q
theorem HOk.laid (x : HOk P w H h) (k : ∀ b u, h.get? b = some u -> h'.get? b = some u) (hp : h.objs.size <= a) (new : ObjOk P w (upd H a o) h' a o) : HOk P w (upd H a o) h' := fun b u e => by
 have hn := x.fresh hp
 by_cases hb : b = a
 ·subst hb; rw [zb1] at e; cases e; exact new
 ·rw [zb5 hb] at e
  exact (x b u e).stay (fun c v _ q => k c v q) (fun c q => by rw [zb5 (zb4 q hn)]; exact q) fun c xs q => by rw [zb5 (zb4 q hn)]; exact q
end
def Rd (H : Hp) (a : Addr) (u : HO) : Prop := H a = some u ∨ ∃ o, H a = some (.frz o u)
theorem Rd.ok {P : Program} {w : World} {H : Hp} {h : Heap} {a : Addr} {u : HO} (r : Rd H a u) (x : HOk P w H h) : ObjOk P w H h a u := by
 rcases r with r | ⟨o, r⟩
 ·exact x a u r
 ·obtain ⟨_, q⟩ := x a _ r
  exact q
def Mut : Option HO -> Prop
 | some (.lst _) => True
 | some (.dK _) => True
 | some (.dT _) => True
 | some (.set _ _) => True
 | some (.ins _ _ _) => True
 | some (.ext _) => True
 | _ => False
section
variable {P : Program} {w : World} {H : Hp} {h h' : Heap} {x e : Addr} {o' : HO}
theorem HOk.write (ok : HOk P w H h) (mu : Mut (H x)) (he : e = x ∨ H e = some (.own x)) (k : ∀ b u, b ≠ e -> h.get? b = some u -> h'.get? b = some u) (heo : ∃ u, h'.get? e = some u)
  (new : ObjOk P w (upd H x o') h' x o') : HOk P w (upd H x o') h' := fun b u q => by
 have nown : ∀ c y, H c = some (.own y) -> c ≠ x := fun c y r z => by subst z; rw [r] at mu; exact mu
 have ntup : ∀ c xs, H c = some (.tup xs) -> c ≠ x := fun c xs r z => by subst z; rw [r] at mu; exact mu
 by_cases hb : b = x
 ·subst hb; rw [zb1] at q; cases q; exact new
 ·rw [zb5 hb] at q
  by_cases hbe : b = e
  ·have q' : H b = some (.own x) := by
    rcases he with z | z
    ·exact absurd (hbe.trans z) hb
    ·rw [hbe]; exact z
   rw [q] at q'; cases q'
   obtain ⟨v, hv⟩ := heo
   exact ⟨v, by rw [hbe]; exact hv⟩
  ·refine (ok b u q).stay (fun c v hc r => k c v ?_ r) (fun c r => by rw [zb5 (nown c b r)]; exact r) fun c xs r => by rw [zb5 (ntup c xs r)]; exact r
   rcases hc with rfl | hc
   ·exact hbe
   ·rintro rfl
    rcases he with z | z
    ·exact nown c b hc z
    ·rw [hc] at z; cases z; exact hb rfl
end
structure Un (fs ex : List Addr) (H H' : Hp) (h h' : Heap) : Prop where
 keep : ∀ b o, h.get? b = some o -> H b = none -> b ∉ fs -> b ∉ ex -> h'.get? b = some o
 slot : ∀ b o, h.get? b = some o -> H b = none -> b ∈ fs -> b ∉ ex -> ∃ sl, h'.get? b = some { o with slots := sl }
 free : ∀ b o, h.get? b = some o -> H b = none -> b ∉ ex -> H' b = none
 there : ∀ b o, h.get? b = some o -> b ∉ ex -> ∃ o', h'.get? b = some o'
 tups : ∀ b xs, H b = some (.tup xs) -> H' b = some (.tup xs)
 frzs : ∀ b o u, H b = some (.frz o u) -> H' b = some (.frz o u)
 tbls : ∀ b ps, H b = some (.tbl ps) -> ∃ more, H' b = some (.tbl (ps ++ more))
section
variable {fs fs' ex ex' : List Addr} {H H1 H2 : Hp} {h h1 h2 h' : Heap} {a x e : Addr} {o : HO}
theorem Un.any (u : Un fs ex H H1 h h1) {b : Addr} {ob : Obj} (q : h.get? b = some ob) (n : H b = none) (hx : b ∉ ex) : ∃ sl, h1.get? b = some { ob with slots := sl } := by
 by_cases hb : b ∈ fs
 ·exact u.slot b ob q n hb hx
 ·exact ⟨ob.slots, u.keep b ob q n hb hx⟩
theorem Un.kept (k : ∀ b u, h.get? b = some u -> h'.get? b = some u) : Un fs ex H H h h' :=
 ⟨fun b ob q _ _ _ => k b ob q, fun b ob q _ _ _ => ⟨ob.slots, k b ob q⟩, fun _ _ _ n _ => n, fun b ob q _ => ⟨ob, k b ob q⟩, fun _ _ q => q, fun _ _ _ q => q, fun _ ps q => ⟨#[], by rw [q]; simp⟩⟩
theorem Un.refl : Un fs ex H H h h := Un.kept fun _ _ q => q
theorem Un.laid (k : ∀ b u, h.get? b = some u -> h'.get? b = some u) (hp : h.objs.size <= a) (hn : H a = none) : Un fs ex H (upd H a o) h h' where
 keep := fun b u q _ _ _ => k b u q
 slot := fun b u q _ _ _ => ⟨u.slots, k b u q⟩
 free := fun b u q n _ => by rw [zb5 (Nat.ne_of_lt (Nat.lt_of_lt_of_le (Heap.lt_size q) hp))]; exact n
 there := fun b u q _ => ⟨u, k b u q⟩
 tups := fun b xs q => by rw [zb5 (zb4 q hn)]; exact q
 frzs := fun b u xs q => by rw [zb5 (zb4 q hn)]; exact q
 tbls := fun b ps q => ⟨#[], by rw [zb5 (zb4 q hn), q]; simp⟩
theorem Un.write (mu : Mut (H x)) (he : e = x ∨ H e = some (.own x)) (k : ∀ b u, b ≠ e -> h.get? b = some u -> h'.get? b = some u) (heo : ∃ u, h'.get? e = some u) : Un fs ex H (upd H x o) h h' := by
 have hx : ∀ b, H b = none -> b ≠ x := fun b n z => by subst z; rw [n] at mu; exact mu
 have hb : ∀ b, H b = none -> b ≠ e := fun b n z => by
  subst z
  rcases he with r | r
  ·exact hx b n r
  ·rw [n] at r; cases r
 have hm : ∀ b u, H b = some u -> ¬ Mut (some u) -> b ≠ x := fun b u q nm z => by subst z; rw [q] at mu; exact nm mu
 refine ⟨fun b u q n _ _ => k b u (hb b n) q, fun b u q n _ _ => ⟨u.slots, k b u (hb b n) q⟩, fun b u q n _ => by rw [zb5 (hx b n)]; exact n, fun b u q _ => ?_,
  fun b xs q => by rw [zb5 (hm b _ q fun z => z)]; exact q, fun b u xs q => by rw [zb5 (hm b _ q fun z => z)]; exact q, fun b ps q => ⟨#[], by rw [zb5 (hm b _ q fun z => z), q]; simp⟩⟩
 by_cases hbe : b = e
 ·subst hbe; exact heo
 ·exact ⟨u, k b u hbe q⟩
end
def trk (h : Heap) (H : Hp) : List Addr := (List.range h.objs.size).filter fun a => (H a).isSome
def hidT (h : Heap) (H : Hp) : Heap := PySem.W.hideAll h (trk h H)
theorem xd8 (h : Heap) (H : Hp) : (hidT h H).objs.size = h.objs.size := PySem.W.hideAll_size _ _
theorem xm7 {h : Heap} {H : Hp} {b : Addr} {o : Obj} (e : h.get? b = some o) (n : H b = none) : (hidT h H).get? b = some o :=
 PySem.W.hideAll_get _ e fun hm => by
  have q : (H b).isSome = true := (List.mem_filter.mp hm).2
  rw [n] at q; simp at q
theorem xz4 {h : Heap} {H : Hp} {b : Addr} {o : Obj} (e : (hidT h H).get? b = some o) : h.get? b = some o /\ H b = none := by
 have e' : h.get? b = some o := PySem.W.of_hideAll (trk h H) e
 refine ⟨e', ?_⟩
 cases q : H b with
 | none => rfl
 | some x =>
  have hm : b ∈ trk h H := List.mem_filter.mpr ⟨List.mem_range.mpr (Heap.lt_size e'), by simp [q]⟩
  have z : (hidT h H).get? b = none := PySem.W.hideAll_none (trk h H) hm
  rw [z] at e; cases e
def wb9 (g h : Heap) (L : Addr) : List (Addr × Obj) := (List.range h.objs.size).filterMap fun a => if a = L ∨ (g.get? a).isSome = true then none else (h.get? a).map fun o => (a, o)
def rest (g h : Heap) (L d : Addr) : List (Addr × Obj) := (wb9 g h L).filter fun p => decide (p.1 ≠ d)
end L2
namespace L2
open PySem PySem.Spec PyProof.Rows
structure Mod (K : PySem.W.Frag) (mg : Str -> Option Value) (base : Heap) : Prop where
 kin : K.In base
 glob : base.Ns mainGlobals mg
 blt : ∃ mb, base.Ns builtinsNs mb /\ ∀ x : Str, x ≠ "__name__" -> mb x = bootBuiltins x
 nolimit : base.NoLimit
structure Cx where
 prog : Program
 w : World
 K : PySem.W.Frag
 mg : Str -> Option Value
 base : Heap
 A : Around
 N : List Str
 s₀ : Shared
 H₀ : Hp
 env : Env
 outer : List Env
 stack : List Env
 ex : List Addr
 fn : Str -> Bool
 calm : Bool
 pn : List (Addr × Obj)
 xe : Value -> Shared -> Prop
def frs (l : List Env) : List Addr := l.filterMap (·.frame)
abbrev Cx.fs (X : Cx) : List Addr := frs X.outer
def Vis (sc : Scope) (x : Str) : Prop := sc.names.lookup x = some .local ∨ sc.names.lookup x = some .cell ∨ sc.names.lookup x = some .free
def Loc (sc : Scope) (x : Str) : Prop := sc.names.lookup x = some .local ∨ sc.names.lookup x = some .cell
def Look (env : Env) (h : Heap) (m : Str -> Option Value) (x : Str) (u : Value) : Prop :=
 (env.kindOf x = some .local /\ m x = some u) ∨ ((env.kindOf x = some .cell ∨ env.kindOf x = some .free) /\ ∃ c, env.cells.lookup x = some c /\ h.IsCell c (some u))
structure Cx.Ok (X : Cx) : Prop where
 mod : Mod X.K X.mg X.base
 kind : X.env.scope.kind = .function
 glob : X.env.globals = mainGlobals
 blt : X.env.builtins = builtinsNs
 above : X.s₀.heap.objs.size <= X.env.locals
 inj : ∀ x y c, X.env.cells.lookup x = some c -> X.env.cells.lookup y = some c -> x = y
 has : ∀ x, (X.env.kindOf x = some .cell ∨ X.env.kindOf x = some .free) -> ∃ c, X.env.cells.lookup x = some c
 cab : ∀ x c, X.fn x = true -> X.env.cells.lookup x = some c -> X.s₀.heap.objs.size <= c
 hd : X.calm = true -> X.A.handled = none
 frames : X.A.frames = some X.stack
 stk : X.stack = X.outer ∨ (X.stack = X.env :: X.outer /\ X.env.frame = some X.env.locals)
 exf : ∀ b ∈ X.ex, b ≠ X.env.locals /\ ∀ x c, X.env.cells.lookup x = some c -> c ≠ b
 bs : ∀ b o, X.base.get? b = some o -> X.s₀.heap.get? b = some o /\ X.H₀ b = none
 bsz : X.base.objs.size <= X.s₀.heap.objs.size
 noex : ∀ b o, X.base.get? b = some o -> b ∉ X.ex
 exfs : ∀ b ∈ X.ex, b ∉ X.fs
 funs : X.s₀.heap.FunFrames X.base X.outer
 frf : ∀ b ∈ X.fs, X.H₀ b = none
structure Inv (X : Cx) (pins : List (Addr × Obj)) (σ : List (Option V)) (H : Hp) (s : Shared) : Prop where
 ok : X.Ok
 os : s.os = X.s₀.os
 bare : AllBare s.gens
 base : Un X.fs X.ex X.H₀ H X.s₀.heap s.heap
 loc : ∃ m, s.heap.Ns X.env.locals m /\ ∀ (i : Nat) (x : Str) (v : V), X.N[i]? = some x -> σ[i]? = some (some v) -> Vis X.env.scope x -> ∃ u, RelV v u /\ Look X.env s.heap m x u
 cell : ∀ x c, X.env.cells.lookup x = some c -> ∃ v, s.heap.IsCell c v
 free : H X.env.locals = none
 freeC : ∀ x c, X.env.cells.lookup x = some c -> H c = none
 pin : ∀ p ∈ X.pn ++ pins, s.heap.get? p.1 = some p.2 /\ H p.1 = none /\ p.1 ≠ X.env.locals /\ p.1 ∉ X.fs /\ ∀ v, p.2.data ≠ .cell v
 hok : HOk X.prog X.w H s.heap
 len : σ.length = X.N.length
section
variable {X : Cx} {pins : List (Addr × Obj)} {σ : List (Option V)} {H H' : Hp} {s : Shared} {h' : Heap}
theorem Cx.Ok.nofr (ok : X.Ok) {b : Addr} {o : Obj} (e : X.base.get? b = some o) : b ∉ X.fs := fun hb => by
 have := (ok.funs.mem hb).1
 rw [e] at this; cases this
theorem Inv.bs (I : Inv X pins σ H s) : ∀ b o, X.base.get? b = some o -> s.heap.get? b = some o /\ H b = none := fun b o e =>
 ⟨I.base.keep b o (I.ok.bs b o e).1 (I.ok.bs b o e).2 (I.ok.nofr e) (I.ok.noex b o e), I.base.free b o (I.ok.bs b o e).1 (I.ok.bs b o e).2 (I.ok.noex b o e)⟩
theorem Inv.bk (I : Inv X pins σ H s) : ∀ b o, X.base.get? b = some o -> s.heap.get? b = some o := fun b o e => (I.bs b o e).1
theorem Inv.mod (I : Inv X pins σ H s) : Mod X.K X.mg X.base := I.ok.mod
theorem Inv.kIn (I : Inv X pins σ H s) : X.K.In s.heap := I.ok.mod.kin.keeps I.bk
theorem Inv.lt (I : Inv X pins σ H s) : X.env.locals < s.heap.objs.size := let ⟨_, hn, _⟩ := I.loc; hn.lt
theorem Inv.sz (I : Inv X pins σ H s) : X.s₀.heap.objs.size <= s.heap.objs.size := Nat.le_trans I.ok.above (Nat.le_of_lt I.lt)
theorem Inv.nofs (I : Inv X pins σ H s) {a : Addr} (h : s.heap.objs.size <= a) : a ∉ X.fs := fun hb => by
 obtain ⟨_, o, ho, _⟩ := I.ok.funs.mem hb
 exact absurd (Nat.lt_of_lt_of_le (Heap.lt_size ho) (Nat.le_trans I.sz h)) (Nat.lt_irrefl _)
theorem Inv.cne (I : Inv X pins σ H s) : ∀ x c, X.env.cells.lookup x = some c -> c ≠ X.env.locals := fun x c e z => by
 obtain ⟨v, o, ho, hd⟩ := I.cell x c e
 obtain ⟨m, ⟨o', es, ep, ho', hd', _⟩, _⟩ := I.loc
 rw [z, ho'] at ho; cases ho; rw [hd'] at hd; cases hd
theorem Inv.funs (I : Inv X pins σ H s) : s.heap.FunFrames X.base X.outer := by
 have all : ∀ (l : List Env), (∀ b ∈ frs l, b ∈ X.fs) -> X.s₀.heap.FunFrames X.base l -> s.heap.FunFrames X.base l := by
  intro l
  induction l with
  | nil => intro _ _; trivial
  | cons env r ih =>
   intro hs hl
   obtain ⟨hk, ⟨L, o, hf, hn, ho, hd⟩, hr⟩ := hl
   have hL : L ∈ X.fs := hs L (by unfold frs; rw [List.filterMap_cons, hf]; exact List.mem_cons_self)
   obtain ⟨sl, e⟩ := I.base.slot L o ho (I.ok.frf L hL) hL fun z => I.ok.exfs L z hL
   exact ⟨hk, ⟨L, _, hf, hn, e, hd⟩, ih (fun b hb => hs b (by unfold frs; rw [List.filterMap_cons, hf]; exact List.mem_cons_of_mem _ hb)) hr⟩
 exact all X.outer (fun _ hb => hb) I.ok.funs
theorem Inv.stack (I : Inv X pins σ H s) : s.heap.FunFrames X.base X.stack := by
 rcases I.ok.stk with e | ⟨e, hf⟩
 ·rw [e]; exact I.funs
 ·rw [e]
  obtain ⟨m, hn, _⟩ := I.loc
  refine .cons (by rw [I.ok.kind]; decide) hf hn ?_ I.funs
  exact Heap.get?_none_of_le (Nat.le_trans I.ok.bsz I.ok.above)
theorem Inv.stkSub (I : Inv X pins σ H s) : ∀ b ∈ frs X.stack, b ∈ X.env.locals :: X.fs := fun b hb => by
 rcases I.ok.stk with e | ⟨e, hf⟩
 ·rw [e] at hb; exact List.mem_cons_of_mem _ hb
 ·rw [e] at hb
  unfold frs at hb
  rw [List.filterMap_cons, hf] at hb
  exact hb
theorem Inv.stkFree (I : Inv X pins σ H s) : ∀ b ∈ frs X.stack, H b = none := fun b hb => by
 rcases List.mem_cons.mp (I.stkSub b hb) with e | hb
 ·rw [e]; exact I.free
 ·obtain ⟨_, o, ho, _⟩ := I.ok.funs.mem hb
  exact I.base.free b o ho (I.ok.frf b hb) fun z => I.ok.exfs b z hb
theorem Inv.step {g' : Array GenState} {t' : Nat} {d' : Drawn} {ch : List Addr} (I : Inv X pins σ H s)
  (hch : ∀ b ∈ ch, (b ∈ X.ex ∨ X.s₀.heap.objs.size <= b) /\ b ≠ X.env.locals /\ (∀ x c, X.env.cells.lookup x = some c -> c ≠ b) /\ ∀ p ∈ X.pn ++ pins, p.1 ≠ b)
  (keep : ∀ b o, b ≠ X.env.locals -> b ∉ X.fs -> b ∉ ch -> s.heap.get? b = some o -> H b = none -> h'.get? b = some o)
  (slot : ∀ b o, b ≠ X.env.locals -> b ∈ X.fs -> b ∉ ch -> s.heap.get? b = some o -> H b = none -> ∃ sl, h'.get? b = some { o with slots := sl }) (free : ∀ b o, b ∉ ch -> s.heap.get? b = some o -> H b = none -> H' b = none)
  (there : ∀ b o, b ∉ ch -> s.heap.get? b = some o -> ∃ o', h'.get? b = some o')
  (tups : ∀ b xs, H b = some (.tup xs) -> H' b = some (.tup xs)) (frzs : ∀ b o u, H b = some (.frz o u) -> H' b = some (.frz o u)) (tbls : ∀ b ps, H b = some (.tbl ps) -> ∃ more, H' b = some (.tbl (ps ++ more)))
  (ns : ∀ m, s.heap.Ns X.env.locals m -> h'.Ns X.env.locals m) (hok : HOk X.prog X.w H' h') (hg : AllBare g') :
  Inv X pins σ H' { s with heap := h', gens := g', drawn := d', toks := t' } := by
 have neL : ∀ b o, X.s₀.heap.get? b = some o -> b ≠ X.env.locals := fun b o e => Nat.ne_of_lt (Nat.lt_of_lt_of_le (Heap.lt_size e) I.ok.above)
 have neC : ∀ b o, X.s₀.heap.get? b = some o -> b ∉ X.ex -> b ∉ ch := fun b o e hx hb => by
  rcases (hch b hb).1 with z | z
  ·exact hx z
  ·exact absurd (Nat.lt_of_lt_of_le (Heap.lt_size e) z) (Nat.lt_irrefl _)
 have cellK : ∀ x c, X.env.cells.lookup x = some c -> ∀ v, s.heap.IsCell c v -> h'.IsCell c v := fun x c e v ⟨o, ho, hd⟩ => by
  have nch : c ∉ ch := fun z => (hch c z).2.2.1 x c e rfl
  by_cases hc : c ∈ X.fs
  ·obtain ⟨sl, q⟩ := slot c o (I.cne x c e) hc nch ho (I.freeC x c e)
   exact ⟨_, q, hd⟩
  ·exact ⟨o, keep c o (I.cne x c e) hc nch ho (I.freeC x c e), hd⟩
 refine ⟨I.ok, I.os, hg, ⟨fun b o e n hb hx => ?_, fun b o e n hb hx => ?_, fun b o e n hx => ?_, fun b o e hx => ?_, fun b xs e => tups b xs (I.base.tups b xs e), fun b o xs e => frzs b o xs (I.base.frzs b o xs e), fun b ps e => ?_⟩, ?_, fun x c e => ?_, ?_, fun x c e => ?_, fun p hp => ?_, hok, I.len⟩
 ·exact keep b o (neL b o e) hb (neC b o e hx) (I.base.keep b o e n hb hx) (I.base.free b o e n hx)
 ·obtain ⟨sl, e1⟩ := I.base.slot b o e n hb hx
  obtain ⟨sl', e2⟩ := slot b _ (neL b o e) hb (neC b o e hx) e1 (I.base.free b o e n hx)
  exact ⟨sl', e2⟩
 ·obtain ⟨o', e1⟩ := I.base.there b o e hx
  exact free b o' (neC b o e hx) e1 (I.base.free b o e n hx)
 ·obtain ⟨o', e1⟩ := I.base.there b o e hx
  exact there b o' (neC b o e hx) e1
 ·obtain ⟨m1, e1⟩ := I.base.tbls b ps e
  obtain ⟨m2, e2⟩ := tbls b _ e1
  exact ⟨m1 ++ m2, by rw [e2, Array.append_assoc]⟩
 ·obtain ⟨m, hn, hl⟩ := I.loc
  refine ⟨m, ns m hn, fun i x v e1 e2 e3 => ?_⟩
  obtain ⟨u, r, l⟩ := hl i x v e1 e2 e3
  refine ⟨u, r, ?_⟩
  rcases l with l | ⟨k, c, e, z⟩
  ·exact .inl l
  ·exact .inr ⟨k, c, e, cellK x c e _ z⟩
 ·obtain ⟨v, z⟩ := I.cell x c e
  exact ⟨v, cellK x c e v z⟩
 ·obtain ⟨m, ⟨o, _, _, ho, _⟩, _⟩ := I.loc
  exact free _ o (fun z => (hch _ z).2.1 rfl) ho I.free
 ·obtain ⟨v, o, ho, hd⟩ := I.cell x c e
  exact free c o (fun z => (hch c z).2.2.1 x c e rfl) ho (I.freeC x c e)
 ·obtain ⟨e, n, ne, nf, d⟩ := I.pin p hp
  have nch : p.1 ∉ ch := fun z => (hch p.1 z).2.2.2 p hp rfl
  exact ⟨keep p.1 p.2 ne nf nch e n, free p.1 p.2 nch e n, ne, nf, d⟩
theorem Inv.un {t' : Nat} (I : Inv X pins σ H s) (u : Un X.fs [] H H' s.heap h') (hok : HOk X.prog X.w H' h') : Inv X pins σ H' { s with heap := h', toks := t' } := by
 obtain ⟨m, ⟨o, es, ep, ho, r⟩, _⟩ := id I.loc
 obtain ⟨sl, hL⟩ := u.any ho I.free (by simp)
 exact I.step (g' := s.gens) (d' := s.drawn) (ch := []) (fun _ z => nomatch z) (fun b o _ hb _ e n => u.keep b o e n hb (by simp)) (fun b o _ hb _ e n => u.slot b o e n hb (by simp)) (fun b o _ e n => u.free b o e n (by simp)) (fun b o _ e => u.there b o e (by simp)) u.tups u.frzs u.tbls (fun m' hm => by
  obtain ⟨o', es', ep', ho', r'⟩ := hm
  rw [ho] at ho'; cases ho'
  exact ⟨_, es', ep', hL, r'⟩) hok I.bare
theorem Inv.call {g' : Array GenState} {t' : Nat} {d' : Drawn} {ch : List Addr} (I : Inv X pins σ H s) (u : Un (frs X.stack) ch H H' s.heap h') (hok : HOk X.prog X.w H' h') (hg : AllBare g')
  (hch : ∀ b ∈ ch, (b ∈ X.ex ∨ X.s₀.heap.objs.size <= b) /\ b ≠ X.env.locals /\ (∀ x c, X.env.cells.lookup x = some c -> c ≠ b) /\ ∀ p ∈ X.pn ++ pins, p.1 ≠ b) :
  Inv X pins σ H' { s with heap := h', gens := g', drawn := d', toks := t' } := by
 obtain ⟨m, ⟨o, es, ep, ho, r⟩, _⟩ := id I.loc
 obtain ⟨sl, hL⟩ := u.any ho I.free fun z => (hch _ z).2.1 rfl
 exact I.step (ch := ch) hch (fun b o hL hb hc e n => u.keep b o e n (fun z => (List.mem_cons.mp (I.stkSub b z)).elim hL hb) hc) (fun b o _ _ hc e n => u.any e n hc) (fun b o hc e n => u.free b o e n hc) (fun b o hc e => u.there b o e hc) u.tups u.frzs u.tbls (fun m' hm => by
  obtain ⟨o', es', ep', ho', r'⟩ := hm
  rw [ho] at ho'; cases ho'
  exact ⟨_, es', ep', hL, r'⟩) hok hg
theorem Inv.turned {t' : Nat} {it : Addr} (I : Inv X pins σ H s) (k : ∀ b o, b ≠ it -> s.heap.get? b = some o -> h'.get? b = some o) (hn : H it = none) (hL : it ≠ X.env.locals)
  (h1 : it ∈ X.ex ∨ X.s₀.heap.objs.size <= it) (h2 : ∀ x c, X.env.cells.lookup x = some c -> c ≠ it) (h3 : ∀ p ∈ X.pn ++ pins, p.1 ≠ it) : Inv X pins σ H { s with heap := h', toks := t' } := by
 have nit : ∀ b u, H b = some u -> b ≠ it := fun b u e z => by rw [z, hn] at e; cases e
 refine I.step (g' := s.gens) (d' := s.drawn) (ch := [it]) (fun b hb => ?_) (fun b o _ _ hc e _ => k b o (fun z => hc (by simp [z])) e) (fun b o _ _ hc e _ => ⟨o.slots, k b o (fun z => hc (by simp [z])) e⟩) (fun _ _ _ _ n => n)
  (fun b o hc e => ⟨o, k b o (fun z => hc (by simp [z])) e⟩) (fun _ _ e => e) (fun _ _ _ e => e) (fun b ps e => ⟨#[], by rw [e]; simp⟩) (fun m hm => ?_) (fun b u e => ?_) I.bare
 ·have e : b = it := by simpa using hb
  subst e
  exact ⟨h1, hL, h2, h3⟩
 ·obtain ⟨o, es, ep, ho, r⟩ := hm
  exact ⟨o, es, ep, k _ o (Ne.symm hL) ho, r⟩
 ·refine (I.hok b u e).stay (fun c v hc q => k c v ?_ q) (fun _ q => q) fun _ _ q => q
  rcases hc with z | z
  ·rw [z]; exact nit b u e
  ·exact nit c _ z
theorem Inv.tok (I : Inv X pins σ H s) (t : Nat) : Inv X pins σ H { s with toks := t } := I.un (h' := s.heap) (t' := t) Un.refl I.hok
theorem Inv.kept {t' : Nat} (I : Inv X pins σ H s) (k : ∀ b u, s.heap.get? b = some u -> h'.get? b = some u) : Inv X pins σ H { s with heap := h', toks := t' } := I.un (Un.kept k) (I.hok.kept k)
theorem Inv.laid {a : Addr} {o : HO} {t' : Nat} (I : Inv X pins σ H s) (k : ∀ b u, s.heap.get? b = some u -> h'.get? b = some u) (hp : s.heap.objs.size <= a) (new : ObjOk X.prog X.w (upd H a o) h' a o) :
  Inv X pins σ (upd H a o) { s with heap := h', toks := t' } := I.un (Un.laid k hp (I.hok.fresh hp)) (I.hok.laid k hp new)
theorem Inv.write {x e : Addr} {o : HO} {t' : Nat} (I : Inv X pins σ H s) (mu : Mut (H x)) (he : e = x ∨ H e = some (.own x)) (k : ∀ b u, b ≠ e -> s.heap.get? b = some u -> h'.get? b = some u) (heo : ∃ u, h'.get? e = some u)
  (new : ObjOk X.prog X.w (upd H x o) h' x o) : Inv X pins σ (upd H x o) { s with heap := h', toks := t' } := I.un (Un.write mu he k heo) (I.hok.write mu he k heo new)
theorem Inv.pins_of {pins' : List (Addr × Obj)} (I : Inv X pins σ H s) (h : ∀ p ∈ pins', s.heap.get? p.1 = some p.2 /\ H p.1 = none /\ p.1 ≠ X.env.locals /\ p.1 ∉ X.fs /\ ∀ v, p.2.data ≠ .cell v) : Inv X pins' σ H s :=
 ⟨I.ok, I.os, I.bare, I.base, I.loc, I.cell, I.free, I.freeC, fun p hp => (List.mem_append.mp hp).elim (fun z => I.pin p (List.mem_append_left _ z)) (h p), I.hok, I.len⟩
theorem yq7 {N : List Str} (hN : N.Nodup) {i j : Nat} {x : Str} (a : N[i]? = some x) (b : N[j]? = some x) : i = j := by
 obtain ⟨h1, e1⟩ := List.getElem?_eq_some_iff.mp a
 obtain ⟨h2, e2⟩ := List.getElem?_eq_some_iff.mp b
 exact (List.getElem_inj hN).mp (e1.trans e2.symm)
theorem zw5 {M : Model} {A : Around} {E : Value -> Shared -> Prop} {i : Nat} {x : Str} {v : V} {u : Value} {Q : Unit -> Shared -> Prop} (I : Inv X pins σ H s) (hN : X.N.Nodup) (hi : X.N[i]? = some x) (hx : Loc X.env.scope x) (r : RelV v u)
  (h : ∀ s', Inv X pins (σ.set i (some v)) H s' -> (∃ a, Heap.SameBut a s.heap s'.heap /\ (a = X.env.locals ∨ X.env.cells.lookup x = some a)) -> Q () s') (hf : X.fn x = true ∨ X.env.scope.names.lookup x = some .local := by first | exact .inl rfl | exact .inr rfl | assumption) : wpAny M A (storeName X.env x u) Q E s := by
 obtain ⟨m, hn, hl⟩ := id I.loc
 have hcls : (X.env.scope.kind == .class || (X.env.scope.kind == .module && X.env.locals != X.env.globals)) = false := by rw [I.ok.kind]; rfl
 have hiσ : i < σ.length := by rw [I.len]; exact (List.getElem?_eq_some_iff.mp hi).1
 have cne := I.cne
 have tracked : ∀ {a : Addr} {h' : Heap}, (∃ o, s.heap.get? a = some o /\ H a = none) -> Heap.SameBut a s.heap h' -> HOk X.prog X.w H h' := fun {a h'} ha hs b ob e => by
  obtain ⟨_, _, hfree⟩ := ha
  refine (I.hok b ob e).stay (fun c w' hc q => (hs.2 c ?_).trans q) (fun _ q => q) fun _ _ q => q
  rintro rfl
  rcases hc with rfl | hc
  ·rw [hfree] at e; cases e
  ·rw [hfree] at hc; cases hc
 rcases hx with hk | hk
 ·refine wpAny_storeName_local hk hn (fun h' hn' hs => ?_) hcls
  obtain ⟨oL, _, _, hoL, _⟩ := id hn
  refine h _ ⟨I.ok, I.os, I.bare, ⟨fun b o e n hb hx => ?_, fun b o e n hb hx => ?_, I.base.free, fun b o e hx => ?_, I.base.tups, I.base.frzs, I.base.tbls⟩, ⟨_, hn', fun j y v' e1 e2 e3 => ?_⟩, fun y c e => ?_, I.free, I.freeC, fun p hp => ?_, tracked ⟨oL, hoL, I.free⟩ hs, by simpa using I.len⟩ ⟨_, hs, .inl rfl⟩
  ·exact (hs.2 b (Nat.ne_of_lt (Nat.lt_of_lt_of_le (Heap.lt_size e) I.ok.above))).trans (I.base.keep b o e n hb hx)
  ·obtain ⟨sl, e1⟩ := I.base.slot b o e n hb hx
   exact ⟨sl, (hs.2 b (Nat.ne_of_lt (Nat.lt_of_lt_of_le (Heap.lt_size e) I.ok.above))).trans e1⟩
  ·obtain ⟨o', e1⟩ := I.base.there b o e hx
   exact ⟨o', (hs.2 b (Nat.ne_of_lt (Nat.lt_of_lt_of_le (Heap.lt_size e) I.ok.above))).trans e1⟩
  ·by_cases hj : j = i
   ·subst hj
    rw [hi] at e1; cases e1
    rw [List.getElem?_set_self hiσ] at e2
    cases e2
    exact ⟨u, r, .inl ⟨hk, by simp⟩⟩
   ·rw [List.getElem?_set_ne (Ne.symm hj)] at e2
    obtain ⟨u', r', q⟩ := hl j y v' e1 e2 e3
    refine ⟨u', r', ?_⟩
    rcases q with ⟨k, e⟩ | ⟨k, c, e, z⟩
    ·refine .inl ⟨k, ?_⟩
     have : y ≠ x := fun e => hj (yq7 hN e1 (e ▸ hi))
     simp [this, e]
    ·exact .inr ⟨k, c, e, z.sameBut hs (cne y c e)⟩
  ·obtain ⟨w', z⟩ := I.cell y c e
   exact ⟨w', z.sameBut hs (cne y c e)⟩
  ·obtain ⟨e, n, ne, nf, d⟩ := I.pin p hp
   exact ⟨(hs.2 p.1 ne).trans e, n, ne, nf, d⟩
 ·have hfn : X.fn x = true := by
   rcases hf with z | z
   ·exact z
   ·rw [z] at hk; cases hk
  obtain ⟨c, hc⟩ := I.ok.has x (.inl hk)
  obtain ⟨w', z⟩ := I.cell x c hc
  refine wpAny_storeName_cell I.ok.kind hk hc z (fun h' hc' hs => ?_)
  obtain ⟨oc, hoc, hocd⟩ := id z
  refine h { s with heap := h' } ⟨I.ok, I.os, I.bare, ⟨fun b o e n hb hx => ?_, fun b o e n hb hx => ?_, I.base.free, fun b o e hx => ?_, I.base.tups, I.base.frzs, I.base.tbls⟩, ⟨m, hn.sameBut hs (Ne.symm (cne x c hc)), fun j y v' e1 e2 e3 => ?_⟩, fun y c' e => ?_, I.free, I.freeC, fun p hp => ?_, tracked ⟨oc, hoc, I.freeC x c hc⟩ hs, by simpa using I.len⟩ ⟨c, hs, .inr hc⟩
  ·exact (hs.2 b (Nat.ne_of_lt (Nat.lt_of_lt_of_le (Heap.lt_size e) (I.ok.cab x c hfn hc)))).trans (I.base.keep b o e n hb hx)
  ·obtain ⟨sl, e1⟩ := I.base.slot b o e n hb hx
   exact ⟨sl, (hs.2 b (Nat.ne_of_lt (Nat.lt_of_lt_of_le (Heap.lt_size e) (I.ok.cab x c hfn hc)))).trans e1⟩
  ·obtain ⟨o', e1⟩ := I.base.there b o e hx
   exact ⟨o', (hs.2 b (Nat.ne_of_lt (Nat.lt_of_lt_of_le (Heap.lt_size e) (I.ok.cab x c hfn hc)))).trans e1⟩
  ·by_cases hj : j = i
   ·subst hj
    rw [hi] at e1; cases e1
    rw [List.getElem?_set_self hiσ] at e2
    cases e2
    exact ⟨u, r, .inr ⟨.inl hk, c, hc, hc'⟩⟩
   ·rw [List.getElem?_set_ne (Ne.symm hj)] at e2
    obtain ⟨u', r', q⟩ := hl j y v' e1 e2 e3
    refine ⟨u', r', ?_⟩
    rcases q with q | ⟨k, c', e, z'⟩
    ·exact .inl q
    ·refine .inr ⟨k, c', e, z'.sameBut hs ?_⟩
     rintro rfl
     exact hj (yq7 hN e1 (I.ok.inj _ _ _ e hc ▸ hi))
  ·by_cases hcc : c' = c
   ·subst hcc; exact ⟨_, hc'⟩
   ·obtain ⟨w2, z2⟩ := I.cell y c' e
    exact ⟨w2, z2.sameBut hs hcc⟩
  ·obtain ⟨e, n, ne, nf, d⟩ := I.pin p hp
   refine ⟨(hs.2 p.1 ?_).trans e, n, ne, nf, d⟩
   intro q
   rw [q, hoc] at e
   have q' : oc = p.2 := Option.some.inj e
   exact d w' (by rw [← q']; exact hocd)
theorem zv7 {M : Model} {A : Around} {E : Value -> Shared -> Prop} {i : Nat} {x : Str} {v : V} {u : Value} {Q : Unit -> Shared -> Prop} (I : Inv X pins σ H s) (hN : X.N.Nodup) (hi : X.N[i]? = some x) (hx : Loc X.env.scope x) (r : RelV v u)
  (h : ∀ s', Inv X pins (σ.set i (some v)) H s' -> Q () s') (hf : X.fn x = true ∨ X.env.scope.names.lookup x = some .local := by first | exact .inl rfl | exact .inr rfl | assumption) : wpAny M A (storeName X.env x u) Q E s :=
 zw5 I hN hi hx r (fun s' I' _ => h s' I') hf
end
abbrev XK := Value -> Option Addr -> Hp -> Prop
abbrev St := List (Option V)
abbrev VK := V -> Hp -> Prop
abbrev TE := St -> Hp -> VK -> Prop
abbrev TT := St -> Hp -> (Bool -> Hp -> Prop) -> Prop
abbrev TA := St -> Hp -> (List V -> Hp -> Prop) -> Prop
structure Ends where
 nx : St -> Hp -> Prop
 rt : VK
 bk : St -> Hp -> Prop := fun _ _ => False
 ct : St -> Hp -> Prop := fun _ _ => False
abbrev TS := Ends -> St -> Hp -> Prop
def EP (X : Cx) (pins : List (Addr × Obj)) (σ : St) (Q : VK) (u : Value) (s' : Shared) : Prop := ∃ v H', Inv X pins σ H' s' /\ RelV v u /\ Q v H'
def TP (X : Cx) (pins : List (Addr × Obj)) (σ : St) (Q : Bool -> Hp -> Prop) (b : Bool) (s' : Shared) : Prop := ∃ H', Inv X pins σ H' s' /\ Q b H'
def AP (X : Cx) (pins : List (Addr × Obj)) (σ : St) (Q : List V -> Hp -> Prop) (us : List Value) (s' : Shared) : Prop := ∃ vs H', Inv X pins σ H' s' /\ Vals vs us /\ Q vs H'
def SP (X : Cx) (pins : List (Addr × Obj)) (D : Ends) (f : Flow) (s' : Shared) : Prop :=
 match f with
 | .next => ∃ σ' H', Inv X pins σ' H' s' /\ D.nx σ' H'
 | .brk => ∃ σ' H', Inv X pins σ' H' s' /\ D.bk σ' H'
 | .cont => ∃ σ' H', Inv X pins σ' H' s' /\ D.ct σ' H'
 | .ret u => ∃ v σ' H', Inv X pins σ' H' s' /\ RelV v u /\ D.rt v H'
def PE (X : Cx) (e : Expr) (t : TE) : Prop :=
 ∀ (pins : List (Addr × Obj)) (s : Shared) (σ : St) (H : Hp) (Q : VK), Inv X pins σ H s -> t σ H Q -> wpAny (model X.prog X.w) X.A (eval e X.env) (EP X pins σ Q) X.xe s
def PT (X : Cx) (e : Expr) (t : TT) : Prop :=
 ∀ (pins : List (Addr × Obj)) (s : Shared) (σ : St) (H : Hp) (Q : Bool -> Hp -> Prop), Inv X pins σ H s -> t σ H Q -> wpAny (model X.prog X.w) X.A (isTrue e X.env (eval e X.env)) (TP X pins σ Q) X.xe s
def PW (X : Cx) (e : Expr) (t : TT) : Prop :=
 ∀ (whole : Sem Value) (pins : List (Addr × Obj)) (s : Shared) (σ : St) (H : Hp) (Q : Bool -> Hp -> Prop), Inv X pins σ H s -> t σ H Q -> wpAny (model X.prog X.w) X.A (isTrue e X.env whole) (TP X pins σ Q) X.xe s
theorem PW.pt {X : Cx} {e : Expr} {t : TT} (h : PW X e t) : PT X e t := h _
def PA (X : Cx) (es : List Expr) (t : TA) : Prop :=
 ∀ (pos : Pos) (pins : List (Addr × Obj)) (s : Shared) (σ : St) (H : Hp) (Q : List V -> Hp -> Prop), Inv X pins σ H s -> t σ H Q -> wpAny (model X.prog X.w) X.A (spliced (backTo pos (starEach es X.env))) (AP X pins σ Q) X.xe s
def PS (X : Cx) (st : Stmt) (t : TS) : Prop :=
 ∀ (pins : List (Addr × Obj)) (s : Shared) (σ : St) (H : Hp) (D : Ends), Inv X pins σ H s -> t D σ H -> wpAny (model X.prog X.w) X.A (exec st X.env) (SP X pins D) X.xe s
def PSs (X : Cx) (st : List Stmt) (t : TS) : Prop :=
 ∀ (pins : List (Addr × Obj)) (s : Shared) (σ : St) (H : Hp) (D : Ends), Inv X pins σ H s -> t D σ H -> wpAny (model X.prog X.w) X.A (execs st X.env) (SP X pins D) X.xe s
theorem thn {α : Type} {t : Sem α} {Q Q' : α -> Shared -> Prop} {M : Model} {A : Around} {E : Value -> Shared -> Prop} {s : Shared} (h : wpAny M A t Q E s) (hQ : ∀ a s, Q a s -> Q' a s) : wpAny M A t Q' E s := wpAny_mono h hQ fun _ _ x => x
end L2
namespace L2
open PySem PySem.Spec PyProof.Rows
section
variable {X : Cx}
def tVar (i : Nat) : TE := fun σ H Q => ∃ v, σ[i]? = some (some v) /\ Q v H
def tC (v : V) : TE := fun _ H Q => Q v H
theorem xf4 {i : Nat} {x : Str} {pos : Pos} (hN : X.N[i]? = some x) (hv : Vis X.env.scope x) (hd : (x == ("__debug__" : Str)) = false := by decide) (hcd : (x == ("__classdict__" : Str)) = false := by decide) : PE X (.Name x pos) (tVar i) := by
 intro pins s σ H Q I h
 obtain ⟨v, e, h⟩ := h
 obtain ⟨m, hn, hl⟩ := I.loc
 obtain ⟨u, r, l⟩ := hl i x v hN e hv
 have fin : EP X pins σ Q u s := ⟨v, H, I, r, h⟩
 rcases l with ⟨hk, hm⟩ | ⟨hk, c, hc, hcell⟩
 ·exact wpAny_Name (wpAny_loadName_local I.ok.kind hk hn hm fin) hd
 ·rcases hk with hk | hk
  ·exact wpAny_Name (wpAny_loadName_cell I.ok.kind hk hc hcell fin) hd
  ·exact wpAny_Name (wpAny_loadName_free I.ok.kind hk hc hcell fin hcd) hd
theorem zb6 {i j pos} : PE X (.Constant (.int i) j pos) (tC (.int i)) := fun _ _ _ H _ I h => wpAny_Constant_int ⟨.int i, H, I.tok _, ⟨_, rfl⟩, h⟩
theorem xv6 {b j pos} : PE X (.Constant (.bool b) j pos) (tC (.bl b)) := fun _ _ _ H _ I h => Constant_bool ⟨.bl b, H, I, rfl, h⟩
theorem xf3 {j pos} : PE X (.Constant .none j pos) (tC .non) := fun _ _ _ H _ I h => Constant_none ⟨.non, H, I, rfl, h⟩
theorem zd5 {x j pos} : PE X (.Constant (.str x) j pos) (tC (.str x)) := fun _ _ _ H _ I h => Calls.Constant_str ⟨.str x, H, I.tok _, ⟨_, rfl⟩, h⟩
def Gl (X : Cx) (x : Str) : Prop := X.env.kindOf x = some .globalImplicit
theorem xg5 {E : Value -> Shared -> Prop} {pins : List (Addr × Obj)} {s : Shared} {σ : St} {H : Hp} {x : Str} {u : Value} {pos : Pos} {Q : Value -> Shared -> Prop} (I : Inv X pins σ H s) (hg : Gl X x) (hm : X.mg x = some u) (h : Q u s)
  (hd : (x == ("__debug__" : Str)) = false := by decide) : wpAny (model X.prog X.w) X.A (eval (.Name x pos) X.env) Q E s :=
 Calls.Name_function_global I.ok.kind hg (Calls.loadGlobal_global (by rw [I.ok.glob]; exact I.mod.glob.keeps I.bk) hm h) hd
theorem zr2 {E : Value -> Shared -> Prop} {pins : List (Addr × Obj)} {s : Shared} {σ : St} {H : Hp} {x : Str} {u : Value} {pos : Pos} {Q : Value -> Shared -> Prop} (I : Inv X pins σ H s) (hg : Gl X x) (hm : X.mg x = none) (hv : bootBuiltins x = some u) (h : Q u s)
  (hn : x ≠ "__name__" := by decide) (hd : (x == ("__debug__" : Str)) = false := by decide) : wpAny (model X.prog X.w) X.A (eval (.Name x pos) X.env) Q E s := by
 obtain ⟨mb, h1, h2⟩ := I.mod.blt
 exact Calls.Name_function_global I.ok.kind hg (Calls.loadGlobal_builtin (by rw [I.ok.glob]; exact I.mod.glob.keeps I.bk) hm (by rw [I.ok.blt]; exact h1.keeps I.bk) ((h2 x hn).trans hv) h) hd
theorem ym3 {x : Str} {v : V} {u : Value} {pos : Pos} (hg : Gl X x) (hm : X.mg x = some u) (r : RelV v u) (hd : (x == ("__debug__" : Str)) = false := by decide) : PE X (.Name x pos) (tC v) :=
 fun _ _ _ H _ I h => xg5 I hg hm ⟨v, H, I, r, h⟩ hd
theorem zq0 {x : Str} {v : V} {u : Value} {pos : Pos} (hg : Gl X x) (hm : X.mg x = none) (hv : bootBuiltins x = some u) (r : RelV v u) (hn : x ≠ "__name__" := by decide) (hd : (x == ("__debug__" : Str)) = false := by decide) : PE X (.Name x pos) (tC v) :=
 fun _ _ _ H _ I h => zr2 I hg hm hv ⟨v, H, I, r, h⟩ hn hd
variable {a b : Expr} {ta tb : TE} {pos : Pos}
def PC (X : Cx) (op : CmpOp) (a b : Expr) (t : TE) : Prop :=
 ∀ (pins : List (Addr × Obj)) (s : Shared) (σ : St) (H : Hp) (Q : VK), Inv X pins σ H s -> t σ H Q ->
  wpAny (model X.prog X.w) X.A (eval a X.env) (fun v s₁ => wpAny (model X.prog X.w) X.A (eval b X.env) (fun u s₂ => wpAny (model X.prog X.w) X.A (compareOp op v u) (EP X pins σ Q) X.xe s₂) X.xe s₁) X.xe s
theorem yr2 (b : Expr) {op : CmpOp} (h : op ≠ .In) (h2 : op ≠ .NotIn) : behindInMarks op b = false := by
 have e1 : (op == CmpOp.In) = false := by cases op <;> first | rfl | exact absurd rfl h
 have e2 : (op == CmpOp.NotIn) = false := by cases op <;> first | rfl | exact absurd rfl h2
 cases b <;> simp [behindInMarks, e1, e2]
def tIsN (ta : TE) : TE := fun σ H Q => ta σ H fun x H1 => Q (.bl (decide (x = .non))) H1
def tNotN (ta : TE) : TE := fun σ H Q => ta σ H fun x H1 => Q (.bl (!decide (x = .non))) H1
theorem RelV.none_iff {x : V} {v : Value} (r : RelV x v) : (v == Value.none) = decide (x = .non) := by
 cases x with
 | non => cases r; rfl
 | bl _ => cases r; rfl
 | int _ => obtain ⟨t, rfl⟩ := r; rfl
 | str _ => obtain ⟨t, rfl⟩ := r; rfl
 | byt _ => obtain ⟨t, rfl⟩ := r; rfl
 | flt _ => obtain ⟨t, rfl⟩ := r; rfl
 | ref _ => cases r; rfl
 | ty _ => cases r; rfl
theorem ys4 {j pos'} (ha : PE X a ta) : PC X .Is a (.Constant .none j pos') (tIsN ta) := by
 intro pins s σ H Q I h
 refine thn (ha pins s σ H _ I h) fun v s1 ⟨x, H1, I1, r1, q1⟩ => ?_
 exact Constant_none (is_none_gen ⟨.bl _, H1, I1, by rw [r1.none_iff]; rfl, q1⟩)
theorem zz5 {j pos'} (ha : PE X a ta) : PC X .IsNot a (.Constant .none j pos') (tNotN ta) := by
 intro pins s σ H Q I h
 refine thn (ha pins s σ H _ I h) fun v s1 ⟨x, H1, I1, r1, q1⟩ => ?_
 exact Constant_none (isnot_none_gen ⟨.bl _, H1, I1, by rw [r1.none_iff]; rfl, q1⟩)
def tB (t : TE) : TT := fun σ H Q => t σ H fun x H1 => ∃ c, x = .bl c /\ Q c H1
theorem pe_cmp {op : CmpOp} {t : TE} (h : PC X op a b t) (h1 : behindInMarks op b = false := by first | exact yr2 _ (by decide) (by decide) | rfl) : PE X (.Compare a [op] [b] pos) t := fun pins s σ H Q I hw => wpAny_Compare1 (h pins s σ H Q I hw) h1
theorem zt7 {op : CmpOp} {t : TE} (h : PC X op a b t) (h1 : behindInMarks op b = false := by first | exact yr2 _ (by decide) (by decide) | rfl) : PT X (.Compare a [op] [b] pos) (tB t) := by
 intro pins s σ H Q I hw
 refine wpAny_isTrue_Compare1 (thn (h pins s σ H _ I hw) fun v s1 h1 => thn h1 fun u s2 h2 => thn h2 fun c s3 ⟨x, H1, I1, r1, q1⟩ => ?_) h1
 obtain ⟨d, rfl, q⟩ := q1
 cases r1
 exact wpAny_truthy_bool ⟨H1, I1, q⟩
theorem zt6 {e : Expr} {t : TE} (h : PE X e t) (he : ∀ whole, isTrue e X.env whole = (do let v ← whole; standAt e.pos; holding [v] (truthy v)) := by intro _; rfl) : PT X e (tB t) := by
 intro pins s σ H Q I hw
 refine isTrue_plain (thn (h pins s σ H _ I hw) fun v s1 ⟨x, H1, I1, r1, q1⟩ => ?_) (he _)
 obtain ⟨d, rfl, q⟩ := q1
 cases r1
 exact wpAny_truthy_bool ⟨H1, I1, q⟩
variable {tA tB' : TT} {rest : List Expr}
def tAnd (t u : TT) : TT := fun σ H Q => t σ H fun c H1 => if c = true then u σ H1 Q else Q false H1
def tOr (t u : TT) : TT := fun σ H Q => t σ H fun c H1 => if c = true then Q true H1 else u σ H1 Q
def tNot (t : TT) : TT := fun σ H Q => t σ H fun c H1 => Q (!c) H1
theorem zk9 (ha : PT X a tA) : PW X (.BoolOp .And [a] pos) tA := by
 intro wh pins s σ H Q I h
 refine isTrue_and (thn (ha pins s σ H Q I h) fun c s1 e => ?_)
 cases c with
 | true => exact isTrue_and_nil e
 | false => exact e
theorem zx9 (ha : PT X a tA) : PW X (.BoolOp .Or [a] pos) tA := by
 intro wh pins s σ H Q I h
 refine isTrue_or (thn (ha pins s σ H Q I h) fun c s1 e => ?_)
 cases c with
 | false => exact isTrue_or_nil e
 | true => exact e
theorem zn4 (ha : PT X a tA) (hb : PW X (.BoolOp .And (b :: rest) pos) tB') : PW X (.BoolOp .And (a :: b :: rest) pos) (tAnd tA tB') := by
 intro wh pins s σ H Q I h
 refine isTrue_and (thn (ha pins s σ H _ I h) fun c s1 ⟨H1, I1, q1⟩ => ?_)
 cases c with
 | true => exact hb wh pins s1 σ H1 Q I1 q1
 | false => exact ⟨H1, I1, q1⟩
theorem yn2 (ha : PT X a tA) (hb : PW X (.BoolOp .Or (b :: rest) pos) tB') : PW X (.BoolOp .Or (a :: b :: rest) pos) (tOr tA tB') := by
 intro wh pins s σ H Q I h
 refine isTrue_or (thn (ha pins s σ H _ I h) fun c s1 ⟨H1, I1, q1⟩ => ?_)
 cases c with
 | true => exact ⟨H1, I1, q1⟩
 | false => exact hb wh pins s1 σ H1 Q I1 q1
theorem xt5 (ha : PT X a tA) : PT X (.UnaryOp .Not a pos) (tNot tA) := by
 intro pins s σ H Q I h
 exact isTrue_not (ha pins s σ H (fun c H1 => Q (!c) H1) I h)
def tAndV (ta tb : TE) : TE := fun σ H Q => ta σ H fun x H1 => ∃ c, x = .bl c /\ if c = true then tb σ H1 Q else Q (.bl false) H1
def tNotV (ta : TE) : TE := fun σ H Q => ta σ H fun x H1 => ∃ c, x = .bl c /\ Q (.bl (!c)) H1
theorem xg7 {op} {t : TE} (h : PE X a t) : PE X (.BoolOp op [a] pos) t := fun pins s σ H Q I hw => BoolOp_one (h pins s σ H Q I hw)
theorem yt3 (ha : PE X a ta) (hb : PE X (.BoolOp .And (b :: rest) pos) tb) : PE X (.BoolOp .And (a :: b :: rest) pos) (tAndV ta tb) := by
 intro pins s σ H Q I h
 refine BoolOp_and (thn (ha pins s σ H _ I h) fun v s1 ⟨x, H1, I1, r1, q1⟩ => ?_)
 obtain ⟨c, rfl, q1⟩ := q1
 cases r1
 refine wpAny_truthy_bool ?_
 cases c with
 | true => exact hb pins s1 σ H1 Q I1 q1
 | false => exact ⟨.bl false, H1, I1, rfl, q1⟩
theorem xv0 (ha : PE X a ta) : PE X (.UnaryOp .Not a pos) (tNotV ta) := by
 intro pins s σ H Q I h
 refine UnaryOp_ (thn (ha pins s σ H _ I h) fun v s1 ⟨x, H1, I1, r1, q1⟩ => ?_)
 obtain ⟨c, rfl, q1⟩ := q1
 cases r1
 exact not_of (wpAny_truthy_bool ⟨.bl (!c), H1, I1, rfl, q1⟩)
def tIf (t : TT) (ta tb : TE) : TE := fun σ H Q => t σ H fun c H1 => if c = true then ta σ H1 Q else tb σ H1 Q
theorem xm4 {c : Expr} (hc : PT X c tA) (ha : PE X a ta) (hb : PE X b tb) : PE X (.IfExp c a b pos) (tIf tA ta tb) := by
 intro pins s σ H Q I h
 refine wpAny_IfExp (thn (hc pins s σ H _ I h) fun d s1 ⟨H1, I1, q1⟩ => ?_)
 cases d with
 | true => exact ha pins s1 σ H1 Q I1 q1
 | false => exact hb pins s1 σ H1 Q I1 q1
end
end L2
namespace L2
open PySem PySem.Spec PyProof.Rows
def SqL (K : PySem.W.Frag) (H : Hp) (a : Addr) (xs : List V) : Prop :=
 Rd H a (.lst xs) ∨
  ∃ (o : Obj) (its : Array Value) (n : Nat), K.lookup a = some o /\ o.cls = .type "list" /\ o.dict = none /\ o.data = .seq its n /\ its.size <= sizeLine /\ Vals xs its.toList
def SqT (K : PySem.W.Frag) (H : Hp) (a : Addr) (xs : List V) : Prop :=
 Rd H a (.tup xs) ∨
  ∃ (o : Obj) (its : Array Value) (n : Nat), K.lookup a = some o /\ o.cls = .type "tuple" /\ o.data = .seq its n /\ its.size <= sizeLine /\ Vals xs its.toList
def absV : Value -> Option V
 | .none => some .non
 | .bool b => some (.bl b)
 | .int i _ => some (.int i)
 | .str x _ => some (.str x)
 | .bytes b _ => some (.byt b)
 | .float b _ => some (.flt b)
 | .ref a => some (.ref a)
 | .type n => some (.ty n)
 | _ => none
theorem RelV.abs {x : V} {u : Value} (r : RelV x u) : absV u = some x := by
 cases x with
 | non => cases r; rfl
 | bl _ => cases r; rfl
 | int _ => obtain ⟨t, rfl⟩ := r; rfl
 | str _ => obtain ⟨t, rfl⟩ := r; rfl
 | byt _ => obtain ⟨t, rfl⟩ := r; rfl
 | flt _ => obtain ⟨t, rfl⟩ := r; rfl
 | ref _ => cases r; rfl
 | ty _ => cases r; rfl
theorem RelV.inj {x y : V} {u : Value} (r : RelV x u) (q : RelV y u) : x = y := Option.some.inj (r.abs.symm.trans q.abs)
theorem Vals.inj : ∀ {xs ys : List V} {us : List Value}, Vals xs us -> Vals ys us -> xs = ys
 | _, _, _, .nil, .nil => rfl
 | _, _, _, .cons r t, .cons r' t' => by rw [r.inj r', Vals.inj t t']
section
variable {X : Cx} {pins : List (Addr × Obj)} {σ : St} {H : Hp} {s : Shared} {a : Addr} {xs ys : List V}
theorem SqL.of {K : PySem.W.Frag} (h : H a = some (.lst xs)) : SqL K H a xs := .inl (.inl h)
theorem SqT.of {K : PySem.W.Frag} (h : H a = some (.tup xs)) : SqT K H a xs := .inl (.inl h)
theorem Inv.list (I : Inv X pins σ H s) (h : SqL X.K H a xs) : ∃ its : List Value, Vals xs its /\ PlainL s.heap a its.toArray /\ xs.length <= sizeLine := by
 rcases h with h | ⟨o, its, n, hk, hc, hd, hs, hz, r⟩
 ·obtain ⟨z, its, n, r, e⟩ := h.ok I.hok
  exact ⟨its, r, ⟨_, n, e, rfl, rfl, rfl⟩, z⟩
 ·refine ⟨its.toList, r, ⟨o, n, I.kIn a o hk, hc, hd, by simpa using hs⟩, ?_⟩
  have e := r.length
  simp only [Array.length_toList] at e
  omega
theorem Inv.tuple (I : Inv X pins σ H s) (h : SqT X.K H a xs) : ∃ its : List Value, Vals xs its /\ IsTup s.heap a its.toArray /\ xs.length <= sizeLine := by
 rcases h with h | ⟨o, its, n, hk, hc, hs, hz, r⟩
 ·obtain ⟨z, its, r, p⟩ := h.ok I.hok
  exact ⟨its, r, p, z.1⟩
 ·refine ⟨its.toList, r, ⟨o, I.kIn a o hk, hc, n, by simpa using hs⟩, ?_⟩
  have e := r.length
  simp only [Array.length_toList] at e
  omega
theorem Inv.list_inj (I : Inv X pins σ H s) (h : SqL X.K H a xs) (h' : SqL X.K H a ys) : xs = ys := by
 obtain ⟨its, r, ⟨o, n, e, _, _, d⟩, _⟩ := I.list h
 obtain ⟨its', r', ⟨o', n', e', _, _, d'⟩, _⟩ := I.list h'
 rw [e] at e'; cases e'
 rw [d] at d'
 injection d' with d1 _
 have : its = its' := by simpa using congrArg Array.toList d1
 subst this
 exact r.inj r'
theorem Inv.tuple_inj (I : Inv X pins σ H s) (h : SqT X.K H a xs) (h' : SqT X.K H a ys) : xs = ys := by
 obtain ⟨its, r, ⟨o, e, _, n, d⟩, _⟩ := I.tuple h
 obtain ⟨its', r', ⟨o', e', _, n', d'⟩, _⟩ := I.tuple h'
 rw [e] at e'; cases e'
 rw [d] at d'
 injection d' with d1 _
 have : its = its' := by simpa using congrArg Array.toList d1
 subst this
 exact r.inj r'
end
abbrev Cx.wish (X : Cx) (E : Value -> Shared -> Prop) : Cx := { X with xe := E }
abbrev Cx.nox (X : Cx) : Cx := X.wish fun _ _ => False
theorem Cx.Ok.wish {X : Cx} (ok : X.Ok) (E : Value -> Shared -> Prop) : (X.wish E).Ok :=
 ⟨ok.mod, ok.kind, ok.glob, ok.blt, ok.above, ok.inj, ok.has, ok.cab, ok.hd, ok.frames, ok.stk, ok.exf, ok.bs, ok.bsz, ok.noex, ok.exfs, ok.funs, ok.frf⟩
theorem Cx.Ok.unwish {X : Cx} {E : Value -> Shared -> Prop} (ok : (X.wish E).Ok) : X.Ok :=
 ⟨ok.mod, ok.kind, ok.glob, ok.blt, ok.above, ok.inj, ok.has, ok.cab, ok.hd, ok.frames, ok.stk, ok.exf, ok.bs, ok.bsz, ok.noex, ok.exfs, ok.funs, ok.frf⟩
section
variable {X : Cx} {pins : List (Addr × Obj)} {σ : St} {H : Hp} {s : Shared} {E : Value -> Shared -> Prop}
theorem Inv.wish (I : Inv X pins σ H s) (E : Value -> Shared -> Prop) : Inv (X.wish E) pins σ H s := ⟨I.ok.wish E, I.os, I.bare, I.base, I.loc, I.cell, I.free, I.freeC, I.pin, I.hok, I.len⟩
theorem Inv.unwish (I : Inv (X.wish E) pins σ H s) : Inv X pins σ H s := ⟨I.ok.unwish, I.os, I.bare, I.base, I.loc, I.cell, I.free, I.freeC, I.pin, I.hok, I.len⟩
theorem SP.unwish {D : Ends} {f : Flow} {s' : Shared} (h : SP (X.wish E) pins D f s') : SP X pins D f s' := by
 cases f with
 | next => obtain ⟨σ', H', I, q⟩ := h; exact ⟨σ', H', I.unwish, q⟩
 | brk => obtain ⟨σ', H', I, q⟩ := h; exact ⟨σ', H', I.unwish, q⟩
 | cont => obtain ⟨σ', H', I, q⟩ := h; exact ⟨σ', H', I.unwish, q⟩
 | ret u => obtain ⟨v, σ', H', I, r, q⟩ := h; exact ⟨v, σ', H', I.unwish, r, q⟩
theorem PSs.nox {st : List Stmt} {t : TS} (h : PSs X.nox st t) : PSs X st t := fun pins s σ H D I hw =>
 wpAny_mono (h pins s σ H D (I.wish _) hw) (fun _ _ q => q.unwish) fun _ _ z => False.elim z
end
section
variable {X : Cx} {st : Stmt} {rest : List Stmt} {t u : TS} {e : Expr} {te : TE} {pos : Pos}
def ym7 : TS := fun D σ H => D.nx σ H
def tSeq (t u : TS) : TS := fun D σ H => t { D with nx := u D } σ H
theorem zd9 : PSs X [] ym7 := fun _ _ σ H _ I h => wpAny_execs_nil ⟨σ, H, I, h⟩
theorem zb3 (h1 : PS X st t) (h2 : PSs X rest u) : PSs X (st :: rest) (tSeq t u) := by
 intro pins s σ H D I h
 refine wpAny_execs_cons (thn (h1 pins s σ H { D with nx := u D } I h) fun f s1 q => ?_)
 cases f with
 | next =>
  obtain ⟨σ', H', I', q⟩ := q
  exact h2 pins s1 σ' H' D I' q
 | ret v => exact q
 | brk => exact q
 | cont => exact q
theorem zb9 (h1 : PS X st t) : PSs X [st] t := by
 intro pins s σ H D I h
 refine wpAny_execs_cons (thn (h1 pins s σ H D I h) fun f s1 q => ?_)
 cases f with
 | next => exact wpAny_execs_nil q
 | ret v => exact q
 | brk => exact q
 | cont => exact q
theorem Inv.quiet {pins : List (Addr × Obj)} {σ : St} {H : Hp} {s : Shared} (I : Inv X pins σ H s) : interactive X.env = false := by simp [interactive, I.ok.kind]
def yv4 (te : TE) : TS := fun D σ H => te σ H fun _ H1 => D.nx σ H1
theorem zg2 (he : PE X e te) (hs : swapsWith e none pos.line X.env = pure false := by rfl) : PS X (.Expr e pos) (yv4 te) := by
 intro pins s σ H D I h
 exact wpAny_Expr_any (thn (he pins s σ H _ I h) fun v s1 ⟨x, H1, I1, r1, q1⟩ => ⟨σ, H1, I1, q1⟩) I.quiet hs
def tRet (te : TE) : TS := fun D σ H => te σ H D.rt
theorem zd4 (he : PE X e te) : PS X (.Return (some e) pos) (tRet te) := by
 intro pins s σ H D I h
 exact wpAny_Return_some (thn (he pins s σ H _ I h) fun v s1 ⟨x, H1, I1, r1, q1⟩ => ⟨x, σ, H1, I1, r1, q1⟩)
def tIfS (c : TT) (t u : TS) : TS := fun D σ H => c σ H fun b H1 => if b = true then t D σ H1 else u D σ H1
theorem zh9 {c : Expr} {a b : List Stmt} {tc : TT} (hc : PT X c tc) (ha : PSs X a t) (hb : PSs X b u) : PS X (.If c a b pos) (tIfS tc t u) := by
 intro pins s σ H D I h
 refine wpAny_If (thn (hc pins s σ H _ I h) fun d s1 ⟨H1, I1, q1⟩ => ?_)
 cases d with
 | true => exact ha pins s1 σ H1 D I1 q1
 | false => exact hb pins s1 σ H1 D I1 q1
def tNever : TS := fun _ _ _ => False
theorem zr3 {sts : List Stmt} : PSs X sts tNever := fun _ _ _ _ _ _ h => h.elim
end
abbrev TG := V -> St -> Hp -> (St -> Hp -> Prop) -> Prop
abbrev TGs := List V -> St -> Hp -> (St -> Hp -> Prop) -> Prop
def PG (X : Cx) (target : Expr) (t : TG) : Prop :=
 ∀ (pins : List (Addr × Obj)) (s : Shared) (σ : St) (H : Hp) (v : V) (u : Value) (Q : St -> Hp -> Prop), Inv X pins σ H s -> RelV v u -> t v σ H Q ->
  wpAny (model X.prog X.w) X.A (assign target X.env u) (fun _ s' => ∃ σ' H', Inv X pins σ' H' s' /\ Q σ' H') X.xe s
def PGs (X : Cx) (ts : List Expr) (t : TGs) : Prop :=
 ∀ (pins : List (Addr × Obj)) (s : Shared) (σ : St) (H : Hp) (vs : List V) (us : List Value) (Q : St -> Hp -> Prop), Inv X pins σ H s -> Vals vs us -> t vs σ H Q ->
  wpAny (model X.prog X.w) X.A (assignInOrder ((assignEach ts X.env).map (·.2)) us) (fun _ s' => ∃ σ' H', Inv X pins σ' H' s' /\ Q σ' H') X.xe s
abbrev TSet := V -> V -> V -> Hp -> (Hp -> Prop) -> Prop
def PSet (X : Cx) (t : TSet) : Prop :=
 ∀ (pins : List (Addr × Obj)) (s : Shared) (σ : St) (H : Hp) (o i v : V) (ov iv u : Value) (Q : Hp -> Prop), Inv X pins σ H s -> RelV o ov -> RelV i iv -> RelV v u -> t o i v H Q ->
  wpAny (model X.prog X.w) X.A (setItem ov iv u) (fun _ s' => ∃ H', Inv X pins σ H' s' /\ Q H') X.xe s
section
variable {X : Cx} {pos : Pos}
def zf8 (i : Nat) : TG := fun v σ H Q => Q (σ.set i (some v)) H
theorem zc0 {i : Nat} {x : Str} (hN : X.N.Nodup) (hi : X.N[i]? = some x) (hx : Loc X.env.scope x) (hf : X.fn x = true ∨ X.env.scope.names.lookup x = some .local := by first | exact .inl rfl | exact .inr rfl | assumption) : PG X (.Name x pos) (zf8 i) := by
 intro pins s σ H v u Q I r h
 exact wpAny_assign_Name (zv7 I hN hi hx r (fun s' I' => ⟨_, H, I', h⟩) hf)
def gNil : TGs := fun vs σ H Q => vs = [] /\ Q σ H
def zk1 (t : TG) (u : TGs) : TGs := fun vs σ H Q => ∃ v r, vs = v :: r /\ t v σ H fun σ' H' => u r σ' H' Q
theorem zg4 : PGs X [] gNil := by
 intro pins s σ H vs us Q I r h
 obtain ⟨e, h⟩ := h
 subst e
 cases r
 exact assignInOrder_nil ⟨σ, H, I, h⟩
theorem zc1 {e : Expr} {es : List Expr} {t : TG} {u : TGs} (h1 : PG X e t) (h2 : PGs X es u)
  (hs : (assignEach (e :: es) X.env).map (·.2) = assign e X.env :: (assignEach es X.env).map (·.2) := by rfl) : PGs X (e :: es) (zk1 t u) := by
 intro pins s σ H vs us Q I r h
 obtain ⟨v, vr, e1, h⟩ := h
 subst e1
 cases r with
 | cons r rr =>
  rw [hs]
  refine assignInOrder_cons (thn (h1 pins s σ H _ _ _ I r h) fun _ s1 ⟨σ1, H1, I1, q1⟩ => ?_)
  exact h2 pins s1 σ1 H1 _ _ Q I1 rr q1
def gTup (K : PySem.W.Frag) (n : Nat) (t : TGs) : TG := fun v σ H Q => ∃ a xs, v = .ref a /\ SqT K H a xs /\ xs.length = n /\ t xs σ H Q
theorem zh4 {es : List Expr} {k : Nat} {t : TGs} {n : Nat} (hc : X.calm = true) (h : PGs X es t)
  (hn : (assignEach es X.env).length = n := by rfl) (hst : (assignEach es X.env).findIdx? (·.1) = none := by rfl) : PG X (.Tuple es k pos) (gTup X.K n t) := by
 intro pins s σ H v u Q I r hw
 obtain ⟨a, xs, e1, hq, hl, hw⟩ := hw
 subst e1
 cases r
 obtain ⟨its, rv, ht, hz⟩ := I.tuple hq
 refine assign_Tuple_tuple (I.ok.hd hc) ht (by simp [hn, ← hl, rv.length]) hst fun h' hx => ?_
 have I1 : Inv X pins σ H { s with heap := h' } := I.kept (t' := s.toks) fun b o e => hx b o (Nat.ne_of_lt (Heap.lt_size e)) e
 exact h pins _ σ H xs _ Q I1 (by simpa using rv) hw
def gSub (to ti : TE) (t : TSet) : TG := fun v σ H Q => to σ H fun o H1 => ti σ H1 fun i H2 => t o i v H2 fun H3 => Q σ H3
theorem yc8 {o i : Expr} {to ti : TE} {t : TSet} (ho : PE X o to) (hi : PE X i ti) (hs : PSet X t)
  (ha : ∀ v, assign (.Subscript o i pos) X.env v = (do
   let ov ← holding [v] (eval o X.env)
   let iv ← holding [v, ov] (eval i X.env)
   standAt pos
   holding [v, ov, iv] (setItem ov iv v)
   release [v, ov, iv] []) := by intro _; rfl) : PG X (.Subscript o i pos) (gSub to ti t) := by
 intro pins s σ H v u Q I r h
 rw [ha]
 refine wpAny_bind (wpAny_holding (thn (ho pins s σ H _ I h) fun ov s1 ⟨x, H1, I1, r1, q1⟩ => ?_))
 refine wpAny_bind (wpAny_holding (thn (hi pins s1 σ H1 _ I1 q1) fun iv s2 ⟨y, H2, I2, r2, q2⟩ => ?_))
 refine wpAny_bind (wpAny_standAt (wpAny_bind (wpAny_holding (thn (hs pins s2 σ H2 x y v ov iv u _ I2 r1 r2 r q2) fun _ s3 ⟨H3, I3, q3⟩ => ?_))))
 exact wpAny_release ⟨σ, H3, I3, q3⟩
def tAsg (te : TE) (g : TG) : TS := fun D σ H => te σ H fun x H1 => g x σ H1 D.nx
theorem zt0 {tg e : Expr} {te : TE} {g : TG} (he : PE X e te) (hg : PG X tg g) (hs : swapsWithSole [tg] e pos.line X.env = pure false := by rfl) (hw : swappedStores [tg] e X.env = pure none := by rfl)
  (h1 : (assignEach [tg] X.env).map (·.2) = [assign tg X.env] := by rfl) : PS X (.Assign [tg] e pos) (tAsg te g) := by
 intro pins s σ H D I h
 refine wpAny_Assign_stores (thn (he pins s σ H _ I h) fun v s1 ⟨x, H1, I1, r1, q1⟩ => ?_) hs hw
 rw [h1]
 exact thn (hg pins s1 σ H1 x v _ I1 r1 q1) fun _ s2 q => q
theorem zc3 {i : Nat} {x : Str} {e : Expr} {te : TE} {pos' : Pos} (hN : X.N.Nodup) (hi : X.N[i]? = some x) (hx : Loc X.env.scope x) (he : PE X e te) (hs : swapsWith e (some (.Name x pos')) pos.line X.env = pure false := by rfl) (hf : X.fn x = true ∨ X.env.scope.names.lookup x = some .local := by first | exact .inl rfl | exact .inr rfl | assumption) :
  PS X (.Assign [.Name x pos'] e pos) (tAsg te (zf8 i)) := by
 intro pins s σ H D I h
 refine wpAny_Assign_Name (thn (he pins s σ H _ I h) fun v s1 ⟨y, H1, I1, r1, q1⟩ => ?_) hs
 exact zv7 I1 hN hi hx r1 (fun s2 I2 => ⟨_, H1, I2, q1⟩) hf
def tPar (i j : Nat) (ta : TA) : TS := fun D σ H => ta σ H fun vs H1 => ∃ v w, vs = [v, w] /\ D.nx ((σ.set i (some v)).set j (some w)) H1
theorem ps_par {i j : Nat} {x y : Str} {a b : Expr} {ta : TA} {px py pt : Pos} {kt k2 pt2} (hc : X.calm = true) (hN : X.N.Nodup) (hi : X.N[i]? = some x) (hj : X.N[j]? = some y) (hij : i ≠ j)
  (hx : X.env.scope.names.lookup x = some .local) (hy : X.env.scope.names.lookup y = some .local) (ha : PA X [a, b] ta)
  (hw : swappedStores [.Tuple [.Name x px, .Name y py] kt pt] (.Tuple [a, b] k2 pt2) X.env = pure (some [x, y]))
  (hs : swapsWithSole [.Tuple [.Name x px, .Name y py] kt pt] (.Tuple [a, b] k2 pt2) pos.line X.env = pure false := by rfl) :
  PS X (.Assign [.Tuple [.Name x px, .Name y py] kt pt] (.Tuple [a, b] k2 pt2) pos) (tPar i j ta) := by
 intro pins s σ H D I h
 rw [exec_Assign_arm]
 refine wpAny_bind (wpAny_standAt ?_)
 rw [hs]
 refine wpAny_bind (wpAny_pure ?_)
 rw [if_neg (by decide)]
 refine wpAny_bind (Tuple_ (thn (ha _ pins s σ H _ I h) fun us s1 ⟨vs, H1, I1, r1, q1⟩ => ?_))
 obtain ⟨v, w, e1, q1⟩ := q1
 subst e1
 obtain ⟨u1, u2, rfl, rv, rw'⟩ : ∃ u1 u2, us = [u1, u2] /\ RelV v u1 /\ RelV w u2 := by
  cases r1 with
  | cons p q =>
   cases q with
   | cons p' q' =>
    cases q'
    exact ⟨_, _, rfl, p, p'⟩
 refine wpAny_newObj_type ?_ (by show 2 <= sizeLine; decide)
 have I2 : Inv X pins σ H1 { s1 with heap := s1.heap.push { cls := .type "tuple", data := .seq [u1, u2].toArray } } := I1.kept (t' := s1.toks) fun b o e => Heap.get?_push_of_some _ e
 rw [hw]
 refine wpAny_bind (wpAny_pure ?_)
 show wpAny (model X.prog X.w) X.A (do rule "assign.swapped-stores"; let items ← unpackItems (.ref s1.heap.objs.size) 2 none; assignInOrder [fun v => bindName X.env y v, fun v => bindName X.env x v] items.reverse; pure Flow.next) _ _ _
 refine wpAny_bind (wpAny_rule (wpAny_bind (unpackItems_tuple (items := #[u1, u2]) (I.ok.hd hc) (IsTup.new s1.heap _) fun h' hx' => ?_)))
 have I3 := I2.kept (h' := h') (t' := s1.toks) fun b o e => hx' b o (Nat.ne_of_lt (Heap.lt_size e)) e
 show wpAny _ _ (assignInOrder [fun v => bindName X.env y v, fun v => bindName X.env x v] [u2, u1] >>= fun _ => pure Flow.next) _ _ _
 refine wpAny_bind (assignInOrder_cons (wpAny_bindName (zv7 I3 hN hj (.inl hy) rw' (fun s2 I4 => ?_) (.inr hy))))
 refine assignInOrder_cons (wpAny_bindName (zv7 I4 hN hi (.inl hx) rv (fun s3 I5 => assignInOrder_nil (wpAny_pure ?_)) (.inr hx)))
 rw [List.set_comm _ _ (Ne.symm hij)] at I5
 exact ⟨_, H1, I5, q1⟩
end
section
variable {X : Cx} {pos : Pos}
def xt2 (c : TT) (tb : TS) : TS := fun D σ H => ∃ W : Nat -> St -> Hp -> Prop, (∃ m, W m σ H) /\ ∀ m σ H, W m σ H ->
 c σ H fun b H1 => if b = true then ∃ N : St -> Hp -> Prop, (∀ σ' H', N σ' H' -> ∃ m', m' < m /\ W m' σ' H') /\ tb { D with nx := N, ct := N, bk := D.nx } σ H1 else D.nx σ H1
theorem yg4 {c : Expr} {body : List Stmt} {tc : TT} {tb : TS} (hp : PassesOwn (model X.prog X.w) X.A X.env X.xe) (hc : PT X c tc) (hb : PSs X body tb) : PS X (.While c body [] pos) (xt2 tc tb) := by
 intro pins s σ H D I h
 obtain ⟨W, ⟨m0, w0⟩, turn⟩ := h
 refine wpAny_While (codeAny_whileLoop (fun n s' => ∃ σ' H', Inv X pins σ' H' s' /\ W n σ' H') ?_ m0 ⟨σ, H, I, w0⟩)
 rintro n s1 ⟨σ1, H1, I1, w1⟩
 refine wpAny_passesOwn hp (thn (hc pins s1 σ1 H1 _ I1 (turn n σ1 H1 w1)) fun b s2 ⟨H2, I2, q2⟩ => ?_)
 cases b with
 | true =>
  obtain ⟨N, hN, q2⟩ := q2
  rw [if_pos rfl]
  refine wpAny_passesOwn hp (thn (hb pins s2 σ1 H2 _ I2 q2) fun f s3 q3 => ?_)
  cases f with
  | next =>
   obtain ⟨σ3, H3, I3, n3⟩ := q3
   obtain ⟨m', hm, w3⟩ := hN σ3 H3 n3
   exact ⟨m', hm, σ3, H3, I3, w3⟩
  | cont =>
   obtain ⟨σ3, H3, I3, n3⟩ := q3
   obtain ⟨m', hm, w3⟩ := hN σ3 H3 n3
   exact ⟨m', hm, σ3, H3, I3, w3⟩
  | brk => exact q3
  | ret v => exact q3
 | false =>
  rw [if_neg Bool.false_ne_true]
  exact wpAny_execs_nil ⟨σ1, H2, I2, q2⟩
end
structure It where
 go : Nat -> Hp -> Prop
 yld : Nat -> Hp -> V -> Hp -> Prop
 stop : Nat -> Hp -> Prop
def FpOk (X : Cx) (pins : List (Addr × Obj)) (H : Hp) (b : Addr) : Prop :=
 H b = none /\ b ≠ X.env.locals /\ b ∉ X.fs /\ (b ∈ X.ex ∨ X.s₀.heap.objs.size <= b) /\ (∀ x c, X.env.cells.lookup x = some c -> c ≠ b) /\ ∀ p ∈ X.pn ++ pins, p.1 ≠ b
theorem Inv.fpOk {X : Cx} {pins : List (Addr × Obj)} {σ : St} {H H' : Hp} {s : Shared} {b : Addr} (I : Inv X pins σ H s) (hb : s.heap.objs.size <= b) (hn : H' b = none) : FpOk X pins H' b := by
 refine ⟨hn, Nat.ne_of_gt (Nat.lt_of_lt_of_le I.lt hb), I.nofs hb, .inr (Nat.le_trans I.sz hb), fun x c e z => ?_, fun p hp z => ?_⟩
 ·obtain ⟨v, q⟩ := I.cell x c e
  exact absurd (Nat.lt_of_lt_of_le q.lt (by rw [z]; exact hb)) (Nat.lt_irrefl _)
 ·exact absurd (Nat.lt_of_lt_of_le (Heap.lt_size (I.pin p hp).1) (by rw [z]; exact hb)) (Nat.lt_irrefl _)
structure Turn (P : Program) (w : World) (K : PySem.W.Frag) (tg : Expr) (J : It) (fp : List Addr) (it : Addr) (tn : Nat -> Heap -> Prop) : Prop where
 mem : it ∈ fp
 obj : ∀ i h, tn i h -> ∀ b ∈ fp, ∃ o, h.get? b = some o /\ ∀ v, o.data ≠ .cell v
 keep : ∀ i h h', tn i h -> (∀ b ∈ fp, ∀ o, h.get? b = some o -> h'.get? b = some o) -> tn i h'
 item : ∀ (X : Cx), X.prog = P -> X.w = w -> X.K = K -> X.calm = true -> ∀ (i : Nat) (pins : List (Addr × Obj)) (s : Shared) (σ : St) (H : Hp) (E : Value -> Shared -> Prop), Inv X pins σ H s -> (∀ b ∈ fp, FpOk X pins H b) -> tn i s.heap -> J.go i H ->
  wpAny (model P w) X.A (pyNext (.ref it)) (fun r s1 => ∃ u, r = some u /\
   wpAny (model P w) X.A (letOwnedTupleGo tg (.ref it) u) (fun _ s2 => ∃ x H', Inv X pins σ H' s2 /\ RelV x u /\ J.yld i H x H' /\ tn (i + 1) s2.heap /\ ∀ b ∈ fp, H' b = none) E s1) E s
 done : ∀ (X : Cx), X.prog = P -> X.w = w -> X.K = K -> X.calm = true -> ∀ (i : Nat) (pins : List (Addr × Obj)) (s : Shared) (σ : St) (H : Hp) (E : Value -> Shared -> Prop), Inv X pins σ H s -> (∀ b ∈ fp, FpOk X pins H b) -> tn i s.heap -> J.stop i H ->
  wpAny (model P w) X.A (pyNext (.ref it)) (fun r s1 => r = none /\ Inv X pins σ H s1) E s
 self : ∀ (A : Around) (i : Nat) (s : Shared) (Q : Value -> Shared -> Prop) (E : Value -> Shared -> Prop), tn i s.heap -> Q (.ref it) s -> wpAny (model P w) A (pyIter (.ref it)) Q E s
abbrev TI := St -> Hp -> (It -> Hp -> Prop) -> Prop
def PIE (X : Cx) (pins : List (Addr × Obj)) (σ : St) (tg : Expr) (R : It -> Hp -> Prop) (itv : Value) (s2 : Shared) : Prop :=
 ∃ (it : Addr) (fp : List Addr) (tn : Nat -> Heap -> Prop) (J : It) (H' : Hp), itv = .ref it /\ Inv X pins σ H' s2 /\ Turn X.prog X.w X.K tg J fp it tn /\ tn 0 s2.heap /\ (∀ b ∈ fp, FpOk X pins H' b) /\ R J H'
def PI (X : Cx) (tg iter : Expr) (wi : TI) : Prop :=
 ∀ (pins : List (Addr × Obj)) (s : Shared) (σ : St) (H : Hp) (R : It -> Hp -> Prop), Inv X pins σ H s -> wi σ H R ->
  wpAny (model X.prog X.w) X.A (eval iter X.env) (fun v s1 => wpAny (model X.prog X.w) X.A (pyIter v) (PIE X pins σ tg R) X.xe s1) X.xe s
theorem yw5 {M : Model} {A : Around} {E : Value -> Shared -> Prop} {s : Shared} {tg : Expr} {it : Addr} {u : Value} {o : Obj} {n : String} {vs : Array Value} {Q : Unit -> Shared -> Prop} (ho : s.heap.get? it = some o) (hc : o.cls = .type n) (hd : o.data = .fields vs)
  (hn : ["enumerate", "zip", "dict_itemiterator", "dict_reverseitemiterator", "odict_iterator", "itertools.zip_longest", "itertools.pairwise"].contains n = false) (hQ : Q () s) : wpAny M A (letOwnedTupleGo tg (.ref it) u) Q E s := by
 unfold letOwnedTupleGo
 cases tg <;> first
  | exact wpAny_pure hQ
  | (cases u <;> first
    | exact wpAny_pure hQ
    | (refine wpAny_bind (wpAny_load ho ?_); rw [hc, hd]; show wpAny M A (if (["enumerate", "zip", "dict_itemiterator", "dict_reverseitemiterator", "odict_iterator", "itertools.zip_longest", "itertools.pairwise"].contains n && vs[0]? == some (rawInt _)) = true then _ else _) Q E s; rw [if_neg (by intro h; rw [hn, Bool.false_and] at h; cases h)]; exact wpAny_pure hQ))
def Itl (K : PySem.W.Frag) (a : Addr) : It :=
 ⟨fun i H => ∃ xs x, SqL K H a xs /\ xs[i]? = some x, fun i H x H' => H' = H /\ ∀ xs, SqL K H a xs -> xs[i]? = some x, fun i H => ∃ xs, SqL K H a xs /\ xs.length <= i⟩
def Itt (K : PySem.W.Frag) (a : Addr) : It :=
 ⟨fun i H => ∃ xs x, SqT K H a xs /\ xs[i]? = some x, fun i H x H' => H' = H /\ ∀ xs, SqT K H a xs -> xs[i]? = some x, fun i H => ∃ xs, SqT K H a xs /\ xs.length <= i⟩
def Itr (lo : Int) (n : Nat) : It := ⟨fun i _ => i < n, fun i H x H' => H' = H /\ x = .int (lo + i), fun i _ => n <= i⟩
theorem xc3 {P : Program} {w : World} {K : PySem.W.Frag} {tg : Expr} (a it : Addr) : Turn P w K tg (Itl K a) [it] it (fun i h => h.IsListIter it a i) where
 mem := by simp
 obj := fun i h st b hb => by
  have e : b = it := by simpa using hb
  subst e
  obtain ⟨o, e, c, d⟩ := st
  exact ⟨o, e, fun v z => by rw [d] at z; cases z⟩
 keep := fun i h h' st k => st.at fun o e => k it (by simp) o e
 item := by
  intro X hP hw hK hc i pins s σ H E I hf st hg
  subst hP hw hK
  obtain ⟨xs, x, hq, hx⟩ := hg
  obtain ⟨its, rv, p, hz⟩ := I.list hq
  obtain ⟨u, hu, ru⟩ := rv.get hx
  obtain ⟨f0, f1, f2, f3, f4, f5⟩ := hf it (by simp)
  refine wpAny_pyNext_list_item st p.isList (x := u) (by simpa using hu) fun h' st' sb => ?_
  have I1 : Inv X pins σ H { s with heap := h' } := I.turned (t' := s.toks) (fun b o hb e => (sb.2 b hb).trans e) f0 f1 f3 f4 f5
  obtain ⟨o, e, c, d⟩ := id st'
  exact ⟨u, rfl, yw5 (s := { s with heap := h' }) e c d (by decide) ⟨x, H, I1, ru, ⟨rfl, fun ys hy => by rw [I.list_inj hy hq]; exact hx⟩, st', fun b hb => (hf b hb).1⟩⟩
 done := by
  intro X hP hw hK hc i pins s σ H E I hf st hg
  subst hP hw hK
  obtain ⟨xs, hq, hx⟩ := hg
  obtain ⟨its, rv, p, hz⟩ := I.list hq
  obtain ⟨f0, f1, f2, f3, f4, f5⟩ := hf it (by simp)
  have hl := rv.length
  exact wpAny_pyNext_list_end (I.ok.hd hc) st p.isList (by simp; (clear f3 f2 hz; omega)) fun h' eb => ⟨rfl, I.turned (t' := s.toks) (fun b o hb e => eb b o hb e) f0 f1 f3 f4 f5⟩
 self := fun _ _ _ _ _ st h => wpAny_pyIter_listiter st h
theorem yx6 {P : Program} {w : World} {K : PySem.W.Frag} {tg : Expr} (a it : Addr) : Turn P w K tg (Itt K a) [it] it (fun i h => h.IsTupleIter it a i) where
 mem := by simp
 obj := fun i h st b hb => by
  have e : b = it := by simpa using hb
  subst e
  obtain ⟨o, e, c, d⟩ := st
  exact ⟨o, e, fun v z => by rw [d] at z; cases z⟩
 keep := fun i h h' st k => st.at fun o e => k it (by simp) o e
 item := by
  intro X hP hw hK hc i pins s σ H E I hf st hg
  subst hP hw hK
  obtain ⟨xs, x, hq, hx⟩ := hg
  obtain ⟨its, rv, p, hz⟩ := I.tuple hq
  obtain ⟨u, hu, ru⟩ := rv.get hx
  obtain ⟨f0, f1, f2, f3, f4, f5⟩ := hf it (by simp)
  refine wpAny_pyNext_tuple_item st (show s.heap.IsTuple a its.toArray from p) (x := u) (by simpa using hu) fun h' st' sb => ?_
  have I1 : Inv X pins σ H { s with heap := h' } := I.turned (t' := s.toks) (fun b o hb e => (sb.2 b hb).trans e) f0 f1 f3 f4 f5
  obtain ⟨o, e, c, d⟩ := id st'
  exact ⟨u, rfl, yw5 (s := { s with heap := h' }) e c d (by decide) ⟨x, H, I1, ru, ⟨rfl, fun ys hy => by rw [I.tuple_inj hy hq]; exact hx⟩, st', fun b hb => (hf b hb).1⟩⟩
 done := by
  intro X hP hw hK hc i pins s σ H E I hf st hg
  subst hP hw hK
  obtain ⟨xs, hq, hx⟩ := hg
  obtain ⟨its, rv, p, hz⟩ := I.tuple hq
  obtain ⟨f0, f1, f2, f3, f4, f5⟩ := hf it (by simp)
  have hl := rv.length
  exact wpAny_pyNext_tuple_end (I.ok.hd hc) st (show s.heap.IsTuple a its.toArray from p) (by simp; (clear f3 f2 hz; omega)) fun h' eb => ⟨rfl, I.turned (t' := s.toks) (fun b o hb e => eb b o hb e) f0 f1 f3 f4 f5⟩
 self := fun _ _ _ _ _ st h => wpAny_pyIter_tupleiter st h
theorem yv5 {P : Program} {w : World} {K : PySem.W.Frag} {tg : Expr} (it : Addr) (lo : Int) (n : Nat) : Turn P w K tg (Itr lo n) [it] it (fun i h => IsRangeIter h it (lo + (i : Nat) * 1) ((n : Int) - (i : Nat)) 1) where
 mem := by simp
 obj := fun i h st b hb => by
  have e : b = it := by simpa using hb
  subst e
  exact ⟨_, st, fun v z => by
   have z' : Data.fields _ = Data.cell v := z
   cases z'⟩
 keep := fun i h h' st k => k it (by simp) _ st
 item := by
  intro X hP hw hK hc i pins s σ H E I hf st hg
  subst hP hw hK
  obtain ⟨f0, f1, f2, f3, f4, f5⟩ := hf it (by simp)
  have W := Walks.range (prog := X.prog) (w := X.w) (I.ok.hd hc) it lo 1 n
  refine W.item i s _ _ hg st fun v h' tk hv st' kk => ?_
  obtain ⟨t, rfl⟩ := hv
  have I1 : Inv X pins σ H { s with heap := h', toks := tk } := I.turned (fun b o hb e => kk b o (by simpa using hb) e) f0 f1 f3 f4 f5
  refine ⟨_, rfl, yw5 (s := { s with heap := h', toks := tk }) (n := "range_iterator") st' rfl rfl (by decide) ⟨.int (lo + i), H, I1, ⟨t, ?_⟩, ⟨rfl, rfl⟩, st', fun b hb => (hf b hb).1⟩⟩
  rw [Int.mul_one]
 done := by
  intro X hP hw hK hc i pins s σ H E I hf st hg
  subst hP hw hK
  obtain ⟨f0, f1, f2, f3, f4, f5⟩ := hf it (by simp)
  exact wpAny_pyNext_range_end (I.ok.hd hc) st (by have : n <= i := hg; (clear f3 f2; omega)) fun h' eb => ⟨rfl, I.turned (t' := s.toks) (fun b o hb e => eb b o hb e) f0 f1 f3 f4 f5⟩
 self := fun _ _ _ _ _ st h => wpAny_pyIter_rangeiter st h
end L2
namespace L2
open PySem PySem.Spec PyProof.Rows
section
variable {X : Cx} {tg : Expr}
def iList (K : PySem.W.Frag) (tl : TE) : TI := fun σ H R => tl σ H fun x H1 => ∃ a, x = .ref a /\ (∃ xs, SqL K H1 a xs) /\ R (Itl K a) H1
def iTup (K : PySem.W.Frag) (tl : TE) : TI := fun σ H R => tl σ H fun x H1 => ∃ a, x = .ref a /\ (∃ xs, SqT K H1 a xs) /\ R (Itt K a) H1
theorem zh0 {l : Expr} {tl : TE} (hl : PE X l tl) : PI X tg l (iList X.K tl) := by
 intro pins s σ H R I h
 refine thn (hl pins s σ H _ I h) fun v s1 ⟨x, H1, I1, r1, q1⟩ => ?_
 obtain ⟨a, e, ⟨xs, hq⟩, q⟩ := q1
 subst e
 cases r1
 obtain ⟨its, rv, p, hz⟩ := I1.list hq
 refine wpAny_pyIter_list p.isList ?_
 refine ⟨s1.heap.objs.size, [s1.heap.objs.size], _, _, H1, rfl, I1.kept (t' := s1.toks) fun b o e => Heap.get?_push_of_some _ e, xc3 a _, ⟨_, Heap.get?_push_size _ rfl, rfl, rfl⟩, fun b hb => ?_, q⟩
 have e : b = s1.heap.objs.size := by simpa using hb
 subst e
 exact I1.fpOk (Nat.le_refl _) (I1.hok.fresh (Nat.le_refl _))
theorem zj9 {l : Expr} {tl : TE} (hl : PE X l tl) : PI X tg l (iTup X.K tl) := by
 intro pins s σ H R I h
 refine thn (hl pins s σ H _ I h) fun v s1 ⟨x, H1, I1, r1, q1⟩ => ?_
 obtain ⟨a, e, ⟨xs, hq⟩, q⟩ := q1
 subst e
 cases r1
 obtain ⟨its, rv, p, hz⟩ := I1.tuple hq
 refine wpAny_pyIter_tuple (show s1.heap.IsTuple a its.toArray from p) ?_
 refine ⟨s1.heap.objs.size, [s1.heap.objs.size], _, _, H1, rfl, I1.kept (t' := s1.toks) fun b o e => Heap.get?_push_of_some _ e, yx6 a _, ⟨_, Heap.get?_push_size _ rfl, rfl, rfl⟩, fun b hb => ?_, q⟩
 have e : b = s1.heap.objs.size := by simpa using hb
 subst e
 exact I1.fpOk (Nat.le_refl _) (I1.hok.fresh (Nat.le_refl _))
theorem xm1 {pins : List (Addr × Obj)} {σ : St} {H : Hp} {s : Shared} {R : It -> Hp -> Prop} {E : Value -> Shared -> Prop} {lo hi : Int} {t u v : Tok} {tk : Nat} (I : Inv X pins σ H s) (h1 : -(2 ^ 62) <= lo) (h2 : lo < 2 ^ 62) (h3 : -(2 ^ 62) <= hi) (h4 : hi < 2 ^ 62)
  (q : R (Itr lo (hi - lo).toNat) H) : wpAny (model X.prog X.w) X.A (pyIter (.ref s.heap.objs.size)) (PIE X pins σ tg R) E { s with heap := s.heap.push { cls := .type "range", data := .fields #[.int lo t, .int hi u, .int 1 v] }, toks := tk } := by
 refine wpAny_pyIter_range (IsRange.new ..) (small_one h1 h2 h3 h4) ?_
 have I1 : Inv X pins σ H { s with heap := s.heap.push { cls := .type "range", data := .fields #[.int lo t, .int hi u, .int 1 v] }, toks := tk } := I.kept fun b o e => Heap.get?_push_of_some _ e
 refine ⟨(s.heap.push { cls := .type "range", data := .fields #[.int lo t, .int hi u, .int 1 v] }).objs.size, [(s.heap.push { cls := .type "range", data := .fields #[.int lo t, .int hi u, .int 1 v] }).objs.size], _, _, H, rfl,
  I1.kept (t' := tk) fun b o e => Heap.get?_push_of_some _ e, yv5 _ lo (hi - lo).toNat, ?_, fun b hb => ?_, q⟩
 ·have e1 : lo + ((0 : Nat) : Int) * 1 = lo := by simp
  have e2 : (((hi - lo).toNat : Nat) : Int) - ((0 : Nat) : Int) = Builtin.Range.rangeSize lo hi 1 := by rw [rangeSize_one]; split <;> (clear e1 h4 h3 h2 h1; omega)
  show IsRangeIter _ _ (lo + ((0 : Nat) : Int) * 1) ((((hi - lo).toNat : Nat) : Int) - ((0 : Nat) : Int)) 1
  rw [e1, e2]
  exact Heap.get?_push_size _ rfl
 ·have e : b = (s.heap.push { cls := .type "range", data := .fields #[.int lo t, .int hi u, .int 1 v] }).objs.size := by simpa using hb
  subst e
  exact I1.fpOk (Nat.le_refl _) (I1.hok.fresh (Nat.le_refl _))
def iRng1 (ta : TA) : TI := fun σ H R => ta σ H fun vs H1 => ∃ j : Int, vs = [.int j] /\ -(2 ^ 62) <= j /\ j < 2 ^ 62 /\ R (Itr 0 j.toNat) H1
theorem zk5 {a : Expr} {ta : TA} {p pos : Pos} (hg : Gl X "range") (hm : X.mg "range" = none) (ha : PA X [a] ta) (hs : starEach [a] X.env = [(false, eval a X.env)] := by rfl) : PI X tg (.Call (.Name "range" p) [a] [] pos) (iRng1 ta) := by
 intro pins s σ H R I h
 refine Call_ (zr2 I hg hm boot_range (PyProof.Rows.callWith_type1 (thn (ha pos pins s σ H _ I h) fun us s1 ⟨vs, H1, I1, r1, q1⟩ => ?_) hs rfl))
 obtain ⟨j, e, q1, q2, q⟩ := q1
 subst e
 cases r1 with
 | cons r rr =>
  cases rr
  obtain ⟨t, rfl⟩ := r
  exact call_range_1 (xm1 I1 (by (clear q2 q1; omega)) (by (clear q2 q1; omega)) q1 q2 (by simpa using q))
def tFor (wi : TI) (g : TG) (tb : TS) : TS := fun D σ H => wi σ H fun J H1 => ∃ W : Nat -> Nat -> St -> Hp -> Prop, (∃ m, W 0 m σ H1) /\ ∀ i m σ H, W i m σ H ->
 (J.stop i H /\ D.nx σ H) ∨ (J.go i H /\ ∃ N : St -> Hp -> Prop, (∀ σ' H', N σ' H' -> ∃ m', m' < m /\ W (i + 1) m' σ' H') /\ ∀ x H', J.yld i H x H' -> g x σ H' fun σ2 H2 => tb { D with nx := N, ct := N, bk := D.nx } σ2 H2)
def yb5 (fp : List Addr) (h : Heap) : List (Addr × Obj) := fp.filterMap fun b => (h.get? b).map fun o => (b, o)
theorem zk3 {fp : List Addr} {h : Heap} {b : Addr} {o : Obj} (hb : b ∈ fp) (e : h.get? b = some o) : (b, o) ∈ yb5 fp h := List.mem_filterMap.mpr ⟨b, hb, by rw [e]; rfl⟩
theorem xb8 {fp : List Addr} {h : Heap} {p : Addr × Obj} (hp : p ∈ yb5 fp h) : p.1 ∈ fp /\ h.get? p.1 = some p.2 := by
 obtain ⟨b, hb, e⟩ := List.mem_filterMap.mp hp
 cases q : h.get? b with
 | none => rw [q] at e; cases e
 | some o =>
  rw [q] at e
  have e' : (b, o) = p := Option.some.inj e
  subst e'
  exact ⟨hb, q⟩
theorem Inv.pinned {pins : List (Addr × Obj)} {σ : St} {H : Hp} {s : Shared} {fp : List Addr} (I : Inv X pins σ H s) (hf : ∀ b ∈ fp, FpOk X pins H b) (ho : ∀ b ∈ fp, ∃ o, s.heap.get? b = some o /\ ∀ v, o.data ≠ .cell v) : Inv X (pins ++ yb5 fp s.heap) σ H s :=
 I.pins_of fun p hp => (List.mem_append.mp hp).elim (fun z => I.pin p (List.mem_append_right _ z)) fun z => by
  obtain ⟨hb, e⟩ := xb8 z
  obtain ⟨f0, f1, f2, _⟩ := hf p.1 hb
  obtain ⟨o, e', d⟩ := ho p.1 hb
  rw [e] at e'; cases e'
  exact ⟨e, f0, f1, f2, d⟩
theorem Inv.unpinned {pins pl : List (Addr × Obj)} {σ : St} {H : Hp} {s : Shared} (I : Inv X (pins ++ pl) σ H s) : Inv X pins σ H s := I.pins_of fun p hp => I.pin p (List.mem_append_right _ (List.mem_append_left _ hp))
theorem zg6 {iter : Expr} {body : List Stmt} {wi : TI} {g : TG} {tb : TS} {pos : Pos} (hp : PassesOwn (model X.prog X.w) X.A X.env X.xe) (hc : X.calm = true) (hi : PI X tg iter wi) (hg : PG X tg g) (hb : PSs X body tb)
  (hs : ∀ x, foldedSetIterable iter X.env x = pure x := by intro _; rfl) : PS X (.For tg iter body [] pos) (tFor wi g tb) := by
 intro pins s σ H D I h
 refine wpAny_For (thn (hi pins s σ H _ I h) fun v s1 h1 => thn h1 fun itv s2 h2 => ?_) hs
 obtain ⟨it, fp, tn, J, H2, e, I2, T, st2, f2, W, ⟨m0, w0⟩, turn⟩ := h2
 subst e
 have stat : ∀ {H' : Hp}, (∀ b ∈ fp, H' b = none) -> ∀ b ∈ fp, FpOk X pins H' b := fun hn b hb => ⟨hn b hb, (f2 b hb).2⟩
 refine codeAny_forLoop_any (fun n s' => ∃ i σ' H', Inv X pins σ' H' s' /\ tn i s'.heap /\ (∀ b ∈ fp, H' b = none) /\ W i n σ' H') ?_ m0 ⟨0, σ, H2, I2, st2, fun b hb => (f2 b hb).1, w0⟩
 rintro n s3 ⟨i, σ3, H3, I3, st3, fr3, w3⟩
 rcases turn i n σ3 H3 w3 with ⟨stop, qn⟩ | ⟨go, N, hN, step⟩
 ·refine wpAny_passesOwn hp (thn (T.done X rfl rfl rfl hc i pins s3 σ3 H3 X.xe I3 (stat fr3) st3 stop) fun r s4 ⟨hr, I4⟩ => ?_)
  subst hr
  exact wpAny_execs_nil ⟨σ3, H3, I4, qn⟩
 ·refine wpAny_passesOwn hp (thn (T.item X rfl rfl rfl hc i pins s3 σ3 H3 X.xe I3 (stat fr3) st3 go) fun r s4 ⟨u, hr, h4⟩ => ?_)
  subst hr
  refine wpAny_passesOwn hp (thn h4 fun _ s5 ⟨x, H5, I5, r5, y5, st5, fr5⟩ => ?_)
  have I5' := I5.pinned (stat fr5) (T.obj _ _ st5)
  refine wpAny_passesOwn hp (thn (hg _ s5 σ3 H5 x u _ I5' r5 (step x H5 y5)) fun _ s6 ⟨σ6, H6, I6, q6⟩ => ?_)
  refine wpAny_passesOwn hp (thn (hb _ s6 σ6 H6 _ I6 q6) fun f s7 q7 => ?_)
  have again : ∀ {σ7 : St} {H7 : Hp}, Inv X (pins ++ yb5 fp s5.heap) σ7 H7 s7 -> N σ7 H7 -> ∃ m, m < n /\ ∃ i σ' H', Inv X pins σ' H' s7 /\ tn i s7.heap /\ (∀ b ∈ fp, H' b = none) /\ W i m σ' H' := fun {σ7 H7} I7 n7 => by
   obtain ⟨m', hm, w7⟩ := hN σ7 H7 n7
   refine ⟨m', hm, i + 1, σ7, H7, I7.unpinned, T.keep _ _ _ st5 fun b hb o e => (I7.pin (b, o) (List.mem_append_right _ (List.mem_append_right _ (zk3 hb e)))).1, fun b hb => ?_, w7⟩
   obtain ⟨o, e, d⟩ := T.obj _ _ st5 b hb
   exact (I7.pin (b, o) (List.mem_append_right _ (List.mem_append_right _ (zk3 hb e)))).2.1
  cases f with
  | next => obtain ⟨σ7, H7, I7, n7⟩ := q7; exact again I7 n7
  | cont => obtain ⟨σ7, H7, I7, n7⟩ := q7; exact again I7 n7
  | brk => obtain ⟨σ7, H7, I7, q7⟩ := q7; exact ⟨σ7, H7, I7.unpinned, q7⟩
  | ret v => obtain ⟨x7, σ7, H7, I7, r7, q7⟩ := q7; exact ⟨x7, σ7, H7, I7.unpinned, r7, q7⟩
end
theorem zn1 {K : PySem.W.Frag} {a : Addr} {xs : List V} {g : TG} {tb : TS} {D : Ends} {σ : St} {H : Hp} (Pv : Nat -> St -> Hp -> Prop) (h0 : Pv 0 σ H) (hl : ∀ i σ H, i <= xs.length -> Pv i σ H -> SqL K H a xs)
  (hs : ∀ i x σ H, xs[i]? = some x -> Pv i σ H -> g x σ H fun σ2 H2 => tb { D with nx := Pv (i + 1), ct := Pv (i + 1), bk := D.nx } σ2 H2) (hd : ∀ σ H, Pv xs.length σ H -> D.nx σ H) :
  ∃ W : Nat -> Nat -> St -> Hp -> Prop, (∃ m, W 0 m σ H) /\ ∀ i m σ H, W i m σ H ->
   ((Itl K a).stop i H /\ D.nx σ H) ∨ ((Itl K a).go i H /\ ∃ N : St -> Hp -> Prop, (∀ σ' H', N σ' H' -> ∃ m', m' < m /\ W (i + 1) m' σ' H') /\ ∀ x H', (Itl K a).yld i H x H' -> g x σ H' fun σ2 H2 => tb { D with nx := N, ct := N, bk := D.nx } σ2 H2) := by
 refine ⟨fun i m σ H => m = xs.length - i /\ i <= xs.length /\ Pv i σ H, ⟨xs.length, by simp, Nat.zero_le _, h0⟩, ?_⟩
 rintro i m σ H ⟨rfl, hi, p⟩
 have q := hl i σ H hi p
 by_cases hlt : i < xs.length
 ·refine .inr ⟨⟨xs, xs[i], q, by simp [hlt]⟩, Pv (i + 1), fun σ' H' p' => ⟨xs.length - (i + 1), by (clear hi; omega), rfl, hlt, p'⟩, fun x H' y => ?_⟩
  obtain ⟨e, y⟩ := y
  subst e
  exact hs i x σ _ (y xs q) p
 ·have e : i = xs.length := by omega
  subst e
  exact .inl ⟨⟨xs, q, Nat.le_refl _⟩, hd σ H p⟩
theorem zn7 {lo : Int} {n : Nat} {g : TG} {tb : TS} {D : Ends} {σ : St} {H : Hp} (Pv : Nat -> St -> Hp -> Prop) (h0 : Pv 0 σ H)
  (hs : ∀ i σ H, i < n -> Pv i σ H -> g (.int (lo + i)) σ H fun σ2 H2 => tb { D with nx := Pv (i + 1), ct := Pv (i + 1), bk := D.nx } σ2 H2) (hd : ∀ σ H, Pv n σ H -> D.nx σ H) :
  ∃ W : Nat -> Nat -> St -> Hp -> Prop, (∃ m, W 0 m σ H) /\ ∀ i m σ H, W i m σ H ->
   ((Itr lo n).stop i H /\ D.nx σ H) ∨ ((Itr lo n).go i H /\ ∃ N : St -> Hp -> Prop, (∀ σ' H', N σ' H' -> ∃ m', m' < m /\ W (i + 1) m' σ' H') /\ ∀ x H', (Itr lo n).yld i H x H' -> g x σ H' fun σ2 H2 => tb { D with nx := N, ct := N, bk := D.nx } σ2 H2) := by
 refine ⟨fun i m σ H => m = n - i /\ i <= n /\ Pv i σ H, ⟨n, by simp, Nat.zero_le _, h0⟩, ?_⟩
 rintro i m σ H ⟨rfl, hi, p⟩
 by_cases hlt : i < n
 ·refine .inr ⟨hlt, Pv (i + 1), fun σ' H' p' => ⟨n - (i + 1), by (clear hi; omega), rfl, hlt, p'⟩, fun x H' y => ?_⟩
  obtain ⟨e, y⟩ := y
  subst e y
  exact hs i σ _ hlt p
 ·have e : i = n := by omega
  subst e
  exact .inl ⟨Nat.le_refl _, hd σ H p⟩
theorem yd0 {c : TT} {tb : TS} {D : Ends} {σ : St} {H : Hp} (Pv : St -> Hp -> Prop) (μ : St -> Hp -> Nat) (h0 : Pv σ H)
  (hs : ∀ σ H, Pv σ H -> c σ H fun b H1 => if b = true then tb { D with nx := fun σ' H' => Pv σ' H' /\ μ σ' H' < μ σ H, ct := fun σ' H' => Pv σ' H' /\ μ σ' H' < μ σ H, bk := D.nx } σ H1 else D.nx σ H1)
  (mono : ∀ σ H Q Q', (∀ b H1, Q b H1 -> Q' b H1) -> c σ H Q -> c σ H Q') : xt2 c tb D σ H := by
 refine ⟨fun m σ H => m = μ σ H /\ Pv σ H, ⟨_, rfl, h0⟩, ?_⟩
 rintro m σ H ⟨rfl, p⟩
 refine mono σ H _ _ (fun b H1 q => ?_) (hs σ H p)
 cases b with
 | true => exact ⟨_, fun σ' H' ⟨p', l⟩ => ⟨_, l, rfl, p'⟩, q⟩
 | false => exact q
end L2
namespace L2
open PySem PySem.Spec PyProof.Rows
abbrev R2 := V -> V -> Hp -> VK -> Prop
def OpR (X : Cx) (f : Value -> Value -> Sem Value) (r : R2) : Prop :=
 ∀ (pins : List (Addr × Obj)) (s : Shared) (σ : St) (H : Hp) (x y : V) (v u : Value) (Q : VK), Inv X pins σ H s -> RelV x v -> RelV y u -> r x y H Q ->
  wpAny (model X.prog X.w) X.A (f v u) (EP X pins σ Q) X.xe s
def UnR (X : Cx) (f : Value -> Sem Value) (r : V -> Hp -> VK -> Prop) : Prop :=
 ∀ (pins : List (Addr × Obj)) (s : Shared) (σ : St) (H : Hp) (x : V) (v : Value) (Q : VK), Inv X pins σ H s -> RelV x v -> r x H Q ->
  wpAny (model X.prog X.w) X.A (f v) (EP X pins σ Q) X.xe s
def CallR (X : Cx) (f : Value) (r : List V -> Hp -> VK -> Prop) : Prop :=
 ∀ (pins : List (Addr × Obj)) (s : Shared) (σ : St) (H : Hp) (xs : List V) (us : List Value) (Q : VK), Inv X pins σ H s -> Vals xs us -> r xs H Q ->
  wpAny (model X.prog X.w) X.A (call f us) (EP X pins σ Q) X.xe s
def tOp (r : R2) (ta tb : TE) : TE := fun σ H Q => ta σ H fun x H1 => tb σ H1 fun y H2 => r x y H2 Q
def tUn (r : V -> Hp -> VK -> Prop) (ta : TE) : TE := fun σ H Q => ta σ H fun x H1 => r x H1 Q
def rI (C : Int -> Int -> Prop) (g : Int -> Int -> V) : R2 := fun x y H Q => ∃ i j, x = .int i /\ y = .int j /\ C i j /\ Q (g i j) H
def rI0 (g : Int -> Int -> V) : R2 := fun x y H Q => ∃ i j, x = .int i /\ y = .int j /\ Q (g i j) H
def rU (g : Int -> V) : V -> Hp -> VK -> Prop := fun x H Q => ∃ i, x = .int i /\ Q (g i) H
section
variable {X : Cx} {a b c : Expr} {ta tb tc : TE} {pos : Pos}
theorem binT (ha : PE X a ta) (hb : PE X b tb) {pins : List (Addr × Obj)} {s : Shared} {σ : St} {H : Hp} {R : V -> V -> Hp -> Prop} (I : Inv X pins σ H s)
  (h : ta σ H fun x H1 => tb σ H1 fun y H2 => R x y H2) {Q : Value -> Shared -> Prop} {f : Value -> Value -> Sem Value}
  (hf : ∀ v u s2 x y H2, Inv X pins σ H2 s2 -> RelV x v -> RelV y u -> R x y H2 -> wpAny (model X.prog X.w) X.A (f v u) Q X.xe s2) :
  wpAny (model X.prog X.w) X.A (eval a X.env) (fun v s₁ => wpAny (model X.prog X.w) X.A (eval b X.env) (fun u s₂ => wpAny (model X.prog X.w) X.A (f v u) Q X.xe s₂) X.xe s₁) X.xe s := by
 refine thn (ha pins s σ H _ I h) fun v s1 ⟨x, H1, I1, r1, q1⟩ => ?_
 refine thn (hb pins s1 σ H1 _ I1 q1) fun u s2 ⟨y, H2, I2, r2, q2⟩ => ?_
 exact hf v u s2 x y H2 I2 r1 r2 q2
theorem zf7 {op : Operator} {r : R2} (ho : OpR X (binaryOp op) r) (ha : PE X a ta) (hb : PE X b tb) : PE X (.BinOp a op b pos) (tOp r ta tb) := by
 intro pins s σ H Q I h
 exact wpAny_BinOp (binT ha hb I h fun v u s2 x y H2 I2 rx ry q => ho pins s2 σ H2 x y v u Q I2 rx ry q)
theorem yf3 {op : UnaryOp} {r : V -> Hp -> VK -> Prop} (ho : UnR X (unaryOp op) r) (ha : PE X a ta) : PE X (.UnaryOp op a pos) (tUn r ta) := by
 intro pins s σ H Q I h
 exact UnaryOp_ (thn (ha pins s σ H _ I h) fun v s1 ⟨x, H1, I1, r1, q1⟩ => ho pins s1 σ H1 x v Q I1 r1 q1)
theorem opI {f : Value -> Value -> Sem Value} {C : Int -> Int -> Prop} {g : Int -> Int -> Int}
  (rule : ∀ (i j : Int) (t u : Tok) (s : Shared) (Q : Value -> Shared -> Prop) (E : Value -> Shared -> Prop), C i j -> Q (.int (g i j) s.toks) { s with toks := s.toks + 1 } -> wpAny (model X.prog X.w) X.A (f (.int i t) (.int j u)) Q E s) :
  OpR X f (rI C fun i j => .int (g i j)) := by
 intro pins s σ H x y v u Q I rx ry h
 obtain ⟨i, j, rfl, rfl, hc, q⟩ := h
 obtain ⟨t, rfl⟩ := rx
 obtain ⟨t', rfl⟩ := ry
 exact rule i j t t' s _ _ hc ⟨.int (g i j), H, I.tok _, ⟨_, rfl⟩, q⟩
theorem opI0 {f : Value -> Value -> Sem Value} {g : Int -> Int -> Int}
  (rule : ∀ (i j : Int) (t u : Tok) (s : Shared) (Q : Value -> Shared -> Prop) (E : Value -> Shared -> Prop), Q (.int (g i j) s.toks) { s with toks := s.toks + 1 } -> wpAny (model X.prog X.w) X.A (f (.int i t) (.int j u)) Q E s) :
  OpR X f (rI0 fun i j => .int (g i j)) := by
 intro pins s σ H x y v u Q I rx ry h
 obtain ⟨i, j, rfl, rfl, q⟩ := h
 obtain ⟨t, rfl⟩ := rx
 obtain ⟨t', rfl⟩ := ry
 exact rule i j t t' s _ _ ⟨.int (g i j), H, I.tok _, ⟨_, rfl⟩, q⟩
theorem opB0 {f : Value -> Value -> Sem Value} {g : Int -> Int -> Bool}
  (rule : ∀ (i j : Int) (t u : Tok) (s : Shared) (Q : Value -> Shared -> Prop) (E : Value -> Shared -> Prop), Q (.bool (g i j)) s -> wpAny (model X.prog X.w) X.A (f (.int i t) (.int j u)) Q E s) :
  OpR X f (rI0 fun i j => .bl (g i j)) := by
 intro pins s σ H x y v u Q I rx ry h
 obtain ⟨i, j, rfl, rfl, q⟩ := h
 obtain ⟨t, rfl⟩ := rx
 obtain ⟨t', rfl⟩ := ry
 exact rule i j t t' s _ _ ⟨.bl (g i j), H, I, rfl, q⟩
def CDiv (i j : Int) : Prop := 0 < j /\ j < 1073741824
def CPow (i j : Int) : Prop := 0 <= j /\ j <= 1000000 /\ i.natAbs < 2 ^ 64
def CMul (i j : Int) : Prop := (-(2 ^ 64) < i /\ i < 2 ^ 64) ∨ (-(2 ^ 64) < j /\ j < 2 ^ 64)
theorem CMul.ok {i j : Int} (h : CMul i j) : IntMulOk i j := by
 rcases h with ⟨h1, h2⟩ | ⟨h1, h2⟩
 ·exact .of_left (intBits_le_64 h1 h2)
 ·exact .of_right (intBits_le_64 h1 h2)
theorem zp4 : OpR X (binaryOp .Add) (rI0 fun i j => .int (i + j)) := opI0 fun _ _ _ _ _ _ _ q => add_int q
theorem zt8 : OpR X (binaryOp .Sub) (rI0 fun i j => .int (i - j)) := opI0 fun _ _ _ _ _ _ _ q => sub_int q
theorem zw3 : OpR X (binaryOp .Mult) (rI CMul fun i j => .int (i * j)) := opI fun _ _ _ _ _ _ _ hc q => mul_int q hc.ok
theorem zx7 : OpR X (binaryOp .FloorDiv) (rI CDiv fun i j => .int (i / j)) := opI fun i j _ _ _ _ _ hc q => by
 have h1 : (0 : Int) < j := hc.1
 have h2 : j < 1073741824 := hc.2
 exact floordiv_int (by (clear h2; omega)) (by rw [Int.fdiv_eq_ediv_of_nonneg i (by (clear h2; omega))]; exact q) (.inl (PyProof.noPylong_small (by omega)))
theorem zz3 : OpR X (binaryOp .Mod) (rI (fun _ j => 0 < j) fun i j => .int (i % j)) := opI fun i j _ _ _ _ _ hc q => by
 have h1 : (0 : Int) < j := hc
 exact mod_int' (by (clear h1; omega)) (by rw [Int.fmod_eq_emod_of_nonneg i (by (clear h1; omega))]; exact q)
theorem op_pow : OpR X (binaryOp .Pow) (rI CPow fun i j => .int (i ^ j.toNat)) := opI fun _ _ _ _ _ _ _ hc q => pow_int_small hc.1 hc.2.1 hc.2.2 q
theorem unI {f : Value -> Sem Value} {g : Int -> Int}
  (rule : ∀ (i : Int) (t : Tok) (s : Shared) (Q : Value -> Shared -> Prop) (E : Value -> Shared -> Prop), Q (.int (g i) s.toks) { s with toks := s.toks + 1 } -> wpAny (model X.prog X.w) X.A (f (.int i t)) Q E s) :
  UnR X f (rU fun i => .int (g i)) := by
 intro pins s σ H x v Q I rx h
 obtain ⟨i, rfl, q⟩ := h
 obtain ⟨t, rfl⟩ := rx
 exact rule i t s _ _ ⟨.int (g i), H, I.tok _, ⟨_, rfl⟩, q⟩
theorem zq5 : UnR X (unaryOp .USub) (rU fun i => .int (-i)) := unI fun _ _ _ _ _ q => neg_int q
end
def scal : V -> V -> Bool
 | .non, .non => true | .non, .int _ => true | .int _, .non => true | .non, .bl _ => true | .bl _, .non => true | .non, .str _ => true | .str _, .non => true
 | .int _, .int _ => true | .bl _, .bl _ => true | .str _, .str _ => true | .byt _, .byt _ => true
 | .int _, .str _ => true | .str _, .int _ => true | .bl _, .str _ => true | .str _, .bl _ => true
 | _, _ => false
def rEq : R2 := fun x y H Q => scal x y = true /\ Q (.bl (decide (x = y))) H
def rNe : R2 := fun x y H Q => scal x y = true /\ Q (.bl (!decide (x = y))) H
theorem xf7 {i j : Int} : decide (V.int i = V.int j) = (i == j) := by
 rw [Bool.eq_iff_iff]
 simp
theorem xs9 {i j : Bool} : decide (V.bl i = V.bl j) = (i == j) := by
 rw [Bool.eq_iff_iff]
 simp
theorem xh9 {i j : Str} : decide (V.str i = V.str j) = (i == j) := by
 rw [Bool.eq_iff_iff]
 simp
theorem xh4 {i j : Array UInt8} : decide (V.byt i = V.byt j) = (i.toList == j.toList) := by
 rw [Bool.eq_iff_iff]
 cases i
 cases j
 simp
section
variable {X : Cx} {a b c : Expr} {ta tb tc : TE} {pos : Pos}
theorem zg1 {pins : List (Addr × Obj)} {σ : St} {H : Hp} {s : Shared} {Q : VK} {k k' : Bool} (I : Inv X pins σ H s) (q : Q (.bl k) H) (e : k = k') : EP X pins σ Q (.bool k') s := by
 subst e
 exact ⟨.bl k, H, I, rfl, q⟩
theorem zp1 : OpR X (compareOp .Eq) rEq := by
 intro pins s σ H x y v u Q I rx ry h
 obtain ⟨hs, q⟩ := h
 cases x with
 | non =>
  cases rx
  cases y with
  | non => cases ry; exact PySem.EqNone.eq_none_none (zg1 I q (by simp))
  | bl j => cases ry; exact PySem.EqNone.eq_none_bool (zg1 I q (by simp))
  | int j => obtain ⟨t', rfl⟩ := ry; exact PySem.EqNone.eq_none_int (zg1 I q (by simp))
  | str j => obtain ⟨t', rfl⟩ := ry; exact PySem.EqNone.eq_none_str (zg1 I q (by simp))
  | _ => exact absurd (show false = true from hs) Bool.false_ne_true
 | bl i =>
  cases rx
  cases y with
  | non => cases ry; exact PySem.EqNone.eq_bool_none (zg1 I q (by simp))
  | bl j => cases ry; exact eq_bool (zg1 I q xs9)
  | str j => obtain ⟨t', rfl⟩ := ry; exact PySem.EqMixed.eq_bool_str (zg1 I q (by simp))
  | _ => exact absurd (show false = true from hs) Bool.false_ne_true
 | int i =>
  obtain ⟨t, rfl⟩ := rx
  cases y with
  | non => cases ry; exact PySem.EqNone.eq_int_none (zg1 I q (by simp))
  | int j => obtain ⟨t', rfl⟩ := ry; exact eq_int (zg1 I q xf7)
  | str j => obtain ⟨t', rfl⟩ := ry; exact PySem.EqMixed.eq_int_str (zg1 I q (by simp))
  | _ => exact absurd (show false = true from hs) Bool.false_ne_true
 | str i =>
  obtain ⟨t, rfl⟩ := rx
  cases y with
  | non => cases ry; exact PySem.EqNone.eq_str_none (zg1 I q (by simp))
  | bl j => cases ry; exact PySem.EqMixed.eq_str_bool (zg1 I q (by simp))
  | int j => obtain ⟨t', rfl⟩ := ry; exact PySem.EqMixed.eq_str_int (zg1 I q (by simp))
  | str j => obtain ⟨t', rfl⟩ := ry; exact eq_str (zg1 I q xh9)
  | _ => exact absurd (show false = true from hs) Bool.false_ne_true
 | byt i =>
  obtain ⟨t, rfl⟩ := rx
  cases y with
  | byt j => obtain ⟨t', rfl⟩ := ry; exact PySem.W.eq_bytes (zg1 I q xh4)
  | _ => exact absurd (show false = true from hs) Bool.false_ne_true
 | _ => cases y <;> exact absurd (show false = true from hs) Bool.false_ne_true
theorem op_ne : OpR X (compareOp .NotEq) rNe := by
 intro pins s σ H x y v u Q I rx ry h
 obtain ⟨hs, q⟩ := h
 cases x with
 | non =>
  cases rx
  cases y with
  | non => cases ry; exact PySem.EqNone.ne_none_none (zg1 I q (by simp))
  | bl j => cases ry; exact PySem.EqNone.ne_none_bool (zg1 I q (by simp))
  | int j => obtain ⟨t', rfl⟩ := ry; exact PySem.EqNone.ne_none_int (zg1 I q (by simp))
  | str j => obtain ⟨t', rfl⟩ := ry; exact PySem.EqNone.ne_none_str (zg1 I q (by simp))
  | _ => exact absurd (show false = true from hs) Bool.false_ne_true
 | bl i =>
  cases rx
  cases y with
  | non => cases ry; exact PySem.EqNone.ne_bool_none (zg1 I q (by simp))
  | bl j => cases ry; exact ne_bool (zg1 I q (congrArg not xs9))
  | str j => obtain ⟨t', rfl⟩ := ry; exact PySem.EqMixed.ne_bool_str (zg1 I q (by simp))
  | _ => exact absurd (show false = true from hs) Bool.false_ne_true
 | int i =>
  obtain ⟨t, rfl⟩ := rx
  cases y with
  | non => cases ry; exact PySem.EqNone.ne_int_none (zg1 I q (by simp))
  | int j => obtain ⟨t', rfl⟩ := ry; exact ne_int (zg1 I q (congrArg not xf7))
  | str j => obtain ⟨t', rfl⟩ := ry; exact PySem.EqMixed.ne_int_str (zg1 I q (by simp))
  | _ => exact absurd (show false = true from hs) Bool.false_ne_true
 | str i =>
  obtain ⟨t, rfl⟩ := rx
  cases y with
  | non => cases ry; exact PySem.EqNone.ne_str_none (zg1 I q (by simp))
  | bl j => cases ry; exact PySem.EqMixed.ne_str_bool (zg1 I q (by simp))
  | int j => obtain ⟨t', rfl⟩ := ry; exact PySem.EqMixed.ne_str_int (zg1 I q (by simp))
  | str j => obtain ⟨t', rfl⟩ := ry; exact ne_str (zg1 I q (congrArg not xh9))
  | _ => exact absurd (show false = true from hs) Bool.false_ne_true
 | byt i =>
  obtain ⟨t, rfl⟩ := rx
  cases y with
  | byt j => obtain ⟨t', rfl⟩ := ry; exact PySem.W.ne_bytes (zg1 I q (congrArg not xh4))
  | _ => exact absurd (show false = true from hs) Bool.false_ne_true
 | _ => cases y <;> exact absurd (show false = true from hs) Bool.false_ne_true
theorem xc0 : OpR X (compareOp .Lt) (rI0 fun i j => .bl (decide (i < j))) := opB0 fun _ _ _ _ _ _ _ q => lt_int q
theorem yd3 : OpR X (compareOp .Gt) (rI0 fun i j => .bl (decide (j < i))) := opB0 fun _ _ _ _ _ _ _ q => gt_int q
theorem op_ge : OpR X (compareOp .GtE) (rI0 fun i j => .bl (decide (j <= i))) := opB0 fun _ _ _ _ _ _ _ q => ge_int q
theorem zd8 (b : Expr) {op : CmpOp} (h : op ≠ .In := by decide) (h2 : op ≠ .NotIn := by decide) : behindInMarks op b = false := by
 have e1 : (op == CmpOp.In) = false := by cases op <;> first | rfl | exact absurd rfl h
 have e2 : (op == CmpOp.NotIn) = false := by cases op <;> first | rfl | exact absurd rfl h2
 cases b <;> simp [behindInMarks, e1, e2]
theorem zn2 {op : CmpOp} {r : R2} (ho : OpR X (compareOp op) r) (ha : PE X a ta) (hb : PE X b tb) (hm : behindInMarks op b = false) : PE X (.Compare a [op] [b] pos) (tOp r ta tb) := by
 intro pins s σ H Q I h
 exact wpAny_Compare1 (binT ha hb I h fun v u s2 x y H2 I2 rx ry q => ho pins s2 σ H2 x y v u Q I2 rx ry q) hm
def zm4 (t : TE) : TT := fun σ H Q => t σ H fun x H' => ∃ k, x = .bl k /\ Q k H'
theorem zc7 {op : CmpOp} {r : R2} (ho : OpR X (compareOp op) r) (ha : PE X a ta) (hb : PE X b tb) (hm : behindInMarks op b = false) : PT X (.Compare a [op] [b] pos) (zm4 (tOp r ta tb)) := by
 intro pins s σ H Q I h
 refine wpAny_isTrue_Compare1 (thn (ha pins s σ H _ I h) fun v s1 ⟨x, H1, I1, r1, q1⟩ => thn (hb pins s1 σ H1 _ I1 q1) fun u s2 ⟨y, H2, I2, r2, q2⟩ =>
  thn (ho pins s2 σ H2 x y v u _ I2 r1 r2 q2) fun c s3 ⟨z, H3, I3, r3, k, e, q3⟩ => ?_) hm
 subst e
 cases r3
 exact wpAny_truthy_bool ⟨H3, I3, q3⟩
theorem yb6 : (sizeLine : Nat) < 2 ^ 63 := by rw [sizeLine_eq]; decide
theorem zp7 : OpR X (binaryOp .Add) (fun x y H Q => ∃ i j, x = .str i /\ y = .str j /\ i.length + j.length <= sizeLine /\ Q (.str (i ++ j)) H) := by
 intro pins s σ H x y v u Q I rx ry h
 obtain ⟨i, j, rfl, rfl, hz, q⟩ := h
 obtain ⟨t, rfl⟩ := rx
 obtain ⟨t', rfl⟩ := ry
 exact add_str (fun t' tk => ⟨.str (i ++ j), H, I.tok _, ⟨_, rfl⟩, q⟩) hz
theorem zx1 {x : V} {us : List Value} (r : Vals [x] us) : ∃ u, us = [u] /\ RelV x u := by
 cases r with
 | cons r1 r2 => cases r2; exact ⟨_, rfl, r1⟩
theorem vals2 {x y : V} {us : List Value} (r : Vals [x, y] us) : ∃ u w', us = [u, w'] /\ RelV x u /\ RelV y w' := by
 cases r with
 | cons r1 r2 =>
  cases r2 with
  | cons r3 r4 => cases r4; exact ⟨_, _, rfl, r1, r3⟩
theorem xn4 : CallR X (.builtin "abs") (fun xs H Q => ∃ i, xs = [.int i] /\ Q (.int (if i < 0 then -i else i)) H) := by
 intro pins s σ H xs us Q I r h
 obtain ⟨i, rfl, q⟩ := h
 obtain ⟨u, rfl, t, rfl⟩ := zx1 r
 exact call_abs_int fun u tk => ⟨.int (if i < 0 then -i else i), H, I.tok _, ⟨_, rfl⟩, q⟩
theorem xh6 (hc : X.calm = true) : CallR X (.builtin "max") (fun xs H Q => ∃ i j, xs = [.int i, .int j] /\ Q (.int (if j > i then j else i)) H) := by
 intro pins s σ H xs us Q I r h
 obtain ⟨i, j, rfl, q⟩ := h
 obtain ⟨u, w', rfl, ⟨t, rfl⟩, ⟨t', rfl⟩⟩ := vals2 r
 refine max_two_ints (I.ok.hd hc) fun h' tk k => ⟨_, H, I.kept k, ?_, q⟩
 by_cases hj : j > i
 ·rw [if_pos hj, if_pos hj]; exact ⟨_, rfl⟩
 ·rw [if_neg hj, if_neg hj]; exact ⟨_, rfl⟩
theorem xg4 (hc : X.calm = true) : CallR X (.builtin "min") (fun xs H Q => ∃ i j, xs = [.int i, .int j] /\ Q (.int (if j < i then j else i)) H) := by
 intro pins s σ H xs us Q I r h
 obtain ⟨i, j, rfl, q⟩ := h
 obtain ⟨u, w', rfl, ⟨t, rfl⟩, ⟨t', rfl⟩⟩ := vals2 r
 refine min_two_ints (I.ok.hd hc) fun h' tk k => ⟨_, H, I.kept k, ?_, q⟩
 by_cases hj : j < i
 ·rw [if_pos hj, if_pos hj]; exact ⟨_, rfl⟩
 ·rw [if_neg hj, if_neg hj]; exact ⟨_, rfl⟩
theorem zr1 : CallR X (.type "int") (fun xs H Q => (∃ i, xs = [.int i] /\ Q (.int i) H) ∨ ∃ k, xs = [.bl k] /\ Q (.int (if k then 1 else 0)) H) := by
 intro pins s σ H xs us Q I r h
 rcases h with ⟨i, rfl, q⟩ | ⟨k, rfl, q⟩
 ·obtain ⟨u, rfl, t, rfl⟩ := zx1 r
  exact call_int_int ⟨.int i, H, I, ⟨_, rfl⟩, q⟩
 ·obtain ⟨u, rfl, r1⟩ := zx1 r
  cases r1
  exact call_int_bool ⟨.int (if k then 1 else 0), H, I.tok _, ⟨_, rfl⟩, q⟩
end
end L2
namespace L2
open PySem PySem.Spec PyProof.Rows
structure ObjM (h : Heap) (x dx C : Addr) (mA : Str -> Option Value) : Prop where
 obj : h.get? x = some (PySem.W.instObj C dx)
 ns : h.Ns1 dx mA
 ne : dx ≠ x
theorem yz8 {h : Heap} {dx : Addr} {mA : Str -> Option Value} (n : h.Ns1 dx mA) : ∃ od, h.get? dx = some od /\ ∀ name, PySem.W.lookIn name od = some (mA name) := by
 obtain ⟨o, es, ep, ho, hd, hk, _, hm⟩ := n
 refine ⟨o, ho, fun name => ?_⟩
 have e := hm name
 unfold nsFind findBy at e
 rw [← Array.find?_toList] at e
 unfold PySem.W.lookIn
 rw [hd]
 dsimp only
 split
 ·rename_i y q
  rw [q] at e
  exact congrArg some e
 ·rename_i q
  rw [q] at e
  have a : es.toList.any (·.refKey) = false := by
   rw [List.any_eq_false]
   intro y hy
   obtain ⟨z, t, hkey⟩ := hk y (Array.mem_toList_iff.mp hy)
   simp [DictEntry.refKey, hkey]
  have a' : ¬ es.toList.any (·.refKey) = true := by rw [a]; exact Bool.false_ne_true
  rw [if_neg a']
  exact congrArg some e
theorem ObjM.look {h : Heap} {x dx C : Addr} {mA : Str -> Option Value} (I : ObjM h x dx C mA) : ∃ od, PySem.W.InstAt h x (PySem.W.instObj C dx) C (some od) /\ ∀ name, PySem.W.lookIn name od = some (mA name) :=
 let ⟨od, ho, hl⟩ := yz8 I.ns
 ⟨od, ⟨I.obj, rfl, rfl, ho⟩, hl⟩
section
variable {prog : Program} {w : World} {A : Around} {E : Value -> Shared -> Prop} {s : Shared} {K : PySem.W.Frag} {x dx C f : Addr} {mA : Str -> Option Value} {name : Str} {v : Value}
end
theorem RelO.some_of {v : V} {o : Option Value} (r : RelO (some v) o) : ∃ u, o = some u /\ RelV v u := by
 cases o with
 | none => exact (show False from r).elim
 | some u => exact ⟨u, rfl, r⟩
section
variable {P : Program} {w : World} {H H' : Hp} {h h' : Heap} {a C dx : Addr} {fs fs' : List (Str × V)}
theorem xv5 (hok : HOk P w H h) (e : H a = some (.ins C dx fs)) : ∃ mA, ObjM h a dx C mA /\ (∀ f, RelO (fs.lookup f) (mA f)) /\ PySem.Within mA (fs.map (·.1)) /\ fs.length <= 1000 /\ H dx = some (.own a) := by
 obtain ⟨d, z, ne, ob, mA, n, r, q⟩ := (show ObjOk P w H h a (.ins C dx fs) from hok a _ e)
 exact ⟨mA, ⟨ob, n, ne⟩, r, q, z, d⟩
end
structure Cls (K : PySem.W.Frag) (C : Addr) : Prop where
 pg : PySem.W.plainGet K C Str.empty = true
 hd : PySem.W.hasDictIn K C = true
 po : PySem.W.plainOver K C = true
 sa : PySem.W.findIn K (.ref C) "__setattr__" = some (some (.builtin "object.__setattr__"))
theorem Cls.get {K : PySem.W.Frag} {C : Addr} (c : Cls K C) (f : Str) : PySem.W.plainGet K C f = true := c.pg
section
variable {X : Cx} {pins : List (Addr × Obj)} {σ : St} {H : Hp} {s : Shared} {a C dx : Addr} {fs : List (Str × V)} {f : Str} {v : V} {A : Around} {E : Value -> Shared -> Prop}
end
section
variable {X : Cx} {o e value : Expr} {f : Str} {pos pos' tpos : Pos} {ta tv : TE}
end
section
variable {X : Cx} {pins : List (Addr × Obj)} {σ : St} {H : Hp} {s : Shared} {A : Around} {E : Value -> Shared -> Prop} {Q : Value -> Shared -> Prop} {c : Value} {b : Bool}
inductive TyOf (K : PySem.W.Frag) (H : Hp) : V -> Value -> Prop where
 | non : TyOf K H .non (.type "NoneType")
 | bl (x : Bool) : TyOf K H (.bl x) (.type "bool")
 | int (i : Int) : TyOf K H (.int i) (.type "int")
 | str (x : Str) : TyOf K H (.str x) (.type "str")
 | flt (x : UInt64) : TyOf K H (.flt x) (.type "float")
 | lst {a : Addr} {xs : List V} (e : H a = some (.lst xs)) : TyOf K H (.ref a) (.type "list")
 | frz {a : Addr} {o : Obj} {xs : List V} (e : H a = some (.frz o (.lst xs))) : TyOf K H (.ref a) (.type "list")
 | tup {a : Addr} {xs : List V} (e : H a = some (.tup xs)) : TyOf K H (.ref a) (.type "tuple")
 | dK {a : Addr} {kvs : List (Key × V)} (e : H a = some (.dK kvs)) : TyOf K H (.ref a) (.type "dict")
 | dT {a : Addr} {kvs : List (List Key × V)} (e : H a = some (.dT kvs)) : TyOf K H (.ref a) (.type "dict")
 | ins {a C dx : Addr} {fs : List (Str × V)} (e : H a = some (.ins C dx fs)) (cl : Cls K C) (ha : PySem.W.findIn K (.ref C) "__class__" = some (some (.builtin "object.__class__")))
   (hn : PySem.W.specialIn K (.builtin "object.__class__") "__get__" = some (some (.builtin "getset_descriptor.__get__"))) (htk : PySem.W.takesIn K (.builtin "object.__class__") = some true)
   (hm : PySem.W.mroIn K C (.type "object") = some true) : TyOf K H (.ref a) (.ref C)
theorem xd0 {x : V} {u t : Value} (I : Inv X pins σ H s) (rx : RelV x u) (ty : TyOf X.K H x t) (e : PySem.W.kitOne X.K t c = some b) (h : ∀ tk, Q (.bool b) { s with toks := tk }) :
  wpAny (model X.prog X.w) A (call (.builtin "isinstance") [u, c]) Q E s := by
 cases ty with
 | non => cases (show u = Value.none from rx); exact PySem.W.kia_one PySem.W.kitx_none I.kIn True.intro e (fun z => nomatch z) h
 | bl y => cases (show u = Value.bool y from rx); exact PySem.W.kia_one PySem.W.kitx_bool I.kIn True.intro e (fun z => nomatch z) h
 | int i => obtain ⟨t, q⟩ := (show ∃ t, u = Value.int i t from rx); cases q; exact PySem.W.kia_one PySem.W.kitx_int I.kIn True.intro e (fun z => nomatch z) h
 | str y => obtain ⟨t, q⟩ := (show ∃ t, u = Value.str y t from rx); cases q; exact PySem.W.kia_one PySem.W.kitx_str I.kIn True.intro e (fun z => nomatch z) h
 | flt y => obtain ⟨t, q⟩ := (show ∃ t, u = Value.float y t from rx); cases q; exact PySem.W.kia_one PySem.W.kitx_float I.kIn True.intro e (fun z => nomatch z) h
 | @lst a xs ea =>
  cases (show u = Value.ref a from rx)
  obtain ⟨_, _, n, _, h1⟩ := (show ObjOk X.prog X.w H s.heap a (.lst xs) from I.hok a _ ea)
  exact PySem.W.kia_one PySem.W.kitx_list I.kIn ⟨_, h1, rfl⟩ e (fun z => nomatch z) h
 | @frz a ob xs ea =>
  cases (show u = Value.ref a from rx)
  obtain ⟨_, _, _, n, _, h1⟩ := (show ObjOk X.prog X.w H s.heap a (.frz ob (.lst xs)) from I.hok a _ ea)
  exact PySem.W.kia_one PySem.W.kitx_list I.kIn ⟨_, h1, rfl⟩ e (fun z => nomatch z) h
 | @tup a xs ea =>
  cases (show u = Value.ref a from rx)
  obtain ⟨_, _, _, p⟩ := (show ObjOk X.prog X.w H s.heap a (.tup xs) from I.hok a _ ea)
  obtain ⟨o, h1, h2, _⟩ := p
  exact PySem.W.kia_one PySem.W.kitx_tuple I.kIn ⟨o, h1, h2⟩ e (fun z => nomatch z) h
 | @dK a kvs ea =>
  cases (show u = Value.ref a from rx)
  obtain ⟨_, _, vs, _, p⟩ := (show ObjOk X.prog X.w H s.heap a (.dK kvs) from I.hok a _ ea)
  obtain ⟨o, es, ep, h1, h2, _⟩ := p
  exact PySem.W.kia_one PySem.W.kitx_dict I.kIn ⟨o, h1, h2.1⟩ e (fun z => nomatch z) h
 | @dT a kvs ea =>
  cases (show u = Value.ref a from rx)
  obtain ⟨_, _, xs, _, o, es, ep, h1, h2, _⟩ := (show ObjOk X.prog X.w H s.heap a (.dT kvs) from I.hok a _ ea)
  exact PySem.W.kia_one PySem.W.kitx_dict I.kIn ⟨o, h1, h2.1⟩ e (fun z => nomatch z) h
 | @ins a C dx fs ea cl ha hn htk hm =>
  cases (show u = Value.ref a from rx)
  obtain ⟨mA, O, _⟩ := xv5 I.hok ea
  obtain ⟨od, J, _⟩ := O.look
  exact PySem.W.kia_one (PySem.W.kitx_own (cl.get _) cl.hd ha hn htk hm) I.kIn J e (fun z => nomatch z) h
end
end L2
namespace L2
open PySem PySem.Spec PyProof.Rows
structure Room (k : Nat) (A : Around) : Prop where
 hd : A.handled = none
 dp : A.depth + 3 * k + 5 < recursionLimit
 un : A.units + 16 * k + 200 < cLine
theorem Room.deeper {k : Nat} {A : Around} (r : Room (k + 1) A) (env : Env) : Room k (A.deeper env) :=
 ⟨r.hd, by have := r.dp; show A.depth + 1 + 3 * k + 5 < _; omega, by have := r.un; show A.units + 3 + 16 * k + 200 < _; omega⟩
theorem Room.in1 {k : Nat} {A : Around} (r : Room (k + 1) A) : Room k A.in1 :=
 ⟨r.hd, by have := r.dp; show A.depth + 3 * k + 5 < _; omega, by have := r.un; show A.units + 1 + 16 * k + 200 < _; omega⟩
theorem Room.depth {k : Nat} {A : Around} (r : Room k A) : A.depth < recursionLimit := by have := r.dp; omega
theorem Room.units {k : Nat} {A : Around} (r : Room k A) : A.units + 64 < cLine := by have := r.un; omega
def tNil : TA := fun _ H Q => Q [] H
def zc4 (ta : TE) (tr : TA) : TA := fun σ H Q => ta σ H fun x H1 => tr σ H1 fun xs H2 => Q (x :: xs) H2
section
variable {X : Cx} {e : Expr} {es : List Expr} {te : TE} {t : TA} {pos : Pos}
theorem zb2 : PA X [] tNil := fun _ _ _ _ H Q I h => Calls.spliced_nil ⟨[], H, I, .nil, h⟩
theorem zb0 (ha : PE X e te) (hr : PA X es t) (hs : starEach (e :: es) X.env = (false, eval e X.env) :: starEach es X.env := by rfl) : PA X (e :: es) (zc4 te t) := by
 intro pos pins s σ H Q I h
 rw [hs]
 show wpAny _ _ (spliced ((false, eval e X.env) :: backTo pos (starEach es X.env))) _ _ s
 refine Calls.spliced_cons (thn (ha pins s σ H _ I h) fun u s1 ⟨x, H1, I1, r1, q1⟩ => ?_)
 exact thn (hr pos pins s1 σ H1 _ I1 q1) fun us s2 ⟨xs, H2, I2, r2, q2⟩ => ⟨x :: xs, H2, I2, .cons r1 r2, q2⟩
def tTup (t : TA) : TE := fun σ H Q => t σ H fun xs H1 => xs.length <= sizeLine /\ ∀ p, H1 p = none -> Q (.ref p) (upd H1 p (.tup xs))
def tLst (t : TA) : TE := fun σ H Q => t σ H fun xs H1 => xs.length <= sizeLine /\ ∀ p, H1 p = none -> Q (.ref p) (upd H1 p (.lst xs))
theorem zf6 {x1} (h : PA X es t) : PE X (.Tuple es x1 pos) (tTup t) := by
 intro pins s σ H Q I hq
 refine wpAny_Tuple_spliced (thn (h pos pins s σ H _ I hq) fun us s1 ⟨xs, H1, I1, r, z, q⟩ => ⟨by rw [← r.length]; exact z, ?_⟩)
 have hf : H1 s1.heap.objs.size = none := I1.hok.fresh (Nat.le_refl _)
 refine ⟨.ref s1.heap.objs.size, upd H1 s1.heap.objs.size (.tup xs), I1.laid (t' := s1.toks) (fun b u e => Heap.get?_push_of_some _ e) (Nat.le_refl _) ?_, rfl, q _ hf⟩
 exact ⟨⟨z, _, Heap.get?_push_size _ rfl, rfl⟩, us, r, ⟨_, Heap.get?_push_size _ rfl, rfl, _, rfl⟩⟩
theorem zd7 (h : PA X es t) : PE X (.List es pos) (tLst t) := by
 intro pins s σ H Q I hq
 refine wpAny_List_spliced (thn (h pos pins s σ H _ I hq) fun us s1 ⟨xs, H1, I1, r, z, q⟩ => ⟨by rw [← r.length]; exact z, ?_⟩)
 have hf : H1 s1.heap.objs.size = none := I1.hok.fresh (Nat.le_refl _)
 refine ⟨.ref s1.heap.objs.size, upd H1 s1.heap.objs.size (.lst xs), I1.laid (t' := s1.toks) (fun b u e => Heap.get?_push_of_some _ e) (Nat.le_refl _) ?_, rfl, q _ hf⟩
 exact ⟨z, us, 0, r, Heap.get?_push_size _ rfl⟩
end
abbrev Sp := List V -> Hp -> VK -> XK -> Prop
abbrev CXT := List Env -> Hp -> Shared -> XK -> Value -> Shared -> Prop
structure Env0 (P : Program) (w : World) (K : PySem.W.Frag) (mg : Str -> Option Value) (base : Heap) (A : Around) (outer : List Env) (s : Shared) (H : Hp) : Prop where
 frames : A.frames = some outer
 mod : Mod K mg base
 bs : ∀ b o, base.get? b = some o -> s.heap.get? b = some o /\ H b = none
 bsz : base.objs.size <= s.heap.objs.size
 funs : s.heap.FunFrames base outer
 frf : ∀ b ∈ frs outer, H b = none
 hok : HOk P w H s.heap
 bare : AllBare s.gens
def CE (outer : List Env) (P : Program) (w : World) (H : Hp) (s : Shared) (Q : VK) (u : Value) (s' : Shared) : Prop :=
 ∃ v H', s'.os = s.os /\ AllBare s'.gens /\ Un (frs outer) [] H H' s.heap s'.heap /\ HOk P w H' s'.heap /\ RelV v u /\ Q v H'
def CR (CX : CXT) (outer : List Env) (P : Program) (w : World) (H : Hp) (s : Shared) (Q : VK) (E : XK) (r : Result) (s' : Shared) : Prop :=
 match r with
 | .ok (.ret u) => CE outer P w H s Q u s'
 | .ok _ => False
 | .error e => CX outer H s E e s'
structure FnOk (P : Program) (w : World) (K : PySem.W.Frag) (mg : Str -> Option Value) (base : Heap) (CX : CXT) (k : Nat) (f : Addr) (fd : FuncData) (ps : List Str) (sp : Sp) : Prop where
 len : ∀ vs H Q E, sp vs H Q E -> vs.length = ps.length
 run : ∀ (A : Around) (outer : List Env) (s : Shared) (H : Hp) (args : Args) (us : List Value) (vs : List V) (Q : VK) (E : XK), Room k A -> Env0 P w K mg base A outer s H -> BindsTo s fd args (ps.zip us) -> Vals vs us -> sp vs H Q E ->
  codeAny (model P w) A (.call (.ref f) args) (CR CX outer P w H s Q E) s
theorem FnOk.imp {P : Program} {w : World} {K : PySem.W.Frag} {mg : Str -> Option Value} {base : Heap} {CX : CXT} {k : Nat} {f : Addr} {fd : FuncData} {ps : List Str} {sp sp' : Sp} (F : FnOk P w K mg base CX k f fd ps sp)
  (h : ∀ vs H Q E, sp' vs H Q E -> sp vs H Q E) : FnOk P w K mg base CX k f fd ps sp' :=
 ⟨fun vs H Q E q => F.len vs H Q E (h _ _ _ _ q), fun A outer s H args us vs Q E hr he hb hv hs => F.run A outer s H args us vs Q E hr he hb hv (h _ _ _ _ hs)⟩
theorem Env0.in1 {P : Program} {w : World} {K : PySem.W.Frag} {mg : Str -> Option Value} {base : Heap} {A : Around} {outer : List Env} {s : Shared} {H : Hp} (e : Env0 P w K mg base A outer s H) :
  Env0 P w K mg base A.in1 outer s H := ⟨e.frames, e.mod, e.bs, e.bsz, e.funs, e.frf, e.hok, e.bare⟩
section
variable {X : Cx} {pins : List (Addr × Obj)} {σ : St} {H : Hp} {s s' : Shared}
theorem Inv.env0 (I : Inv X pins σ H s) : Env0 X.prog X.w X.K X.mg X.base X.A X.stack s H :=
 ⟨I.ok.frames, I.ok.mod, I.bs, Nat.le_trans I.ok.bsz I.sz, I.stack, I.stkFree, I.hok, I.bare⟩
theorem Inv.after {Q : VK} {u : Value} (I : Inv X pins σ H s) (h : CE X.stack X.prog X.w H s Q u s') : EP X pins σ Q u s' := by
 obtain ⟨v, H', os, bare, un, hok, r, q⟩ := h
 obtain ⟨hh, g, d, t, os'⟩ := s'
 obtain rfl : os' = s.os := os
 exact ⟨v, H', I.call (h' := hh) (g' := g) (d' := d) (t' := t) (ch := []) un hok bare (fun b z => absurd z (by simp)), r, q⟩
end
def zm2 (sp : Sp) (dvs : List V) (E : XK) (t : TA) : TE := fun σ H Q => t σ H fun vs H1 => sp (vs ++ dvs) H1 Q E
def Binds (K : PySem.W.Frag) (fd : FuncData) (ps : List Str) (ds : List Value) : Prop :=
 ∀ (s : Shared) (us : List Value), K.In s.heap -> (us ++ ds).length = ps.length -> BindsTo s fd ⟨us, []⟩ (ps.zip (us ++ ds))
theorem Binds.all {K : PySem.W.Frag} {fd : FuncData} {ps : List Str} (h : ∀ us : List Value, us.length = ps.length -> bindArgs fd ⟨us, []⟩ = pure (ps.zip us)) : Binds K fd ps [] := fun s us _ hl => by
 rw [List.append_nil] at hl ⊢
 exact .of_eq (h us hl)
def xj6 (CX : CXT) (X : Cx) (E : XK) : Prop := ∀ (pins : List (Addr × Obj)) (σ : St) (H : Hp) (s : Shared) (e : Value) (s' : Shared), Inv X pins σ H s -> CX X.stack H s E e s' -> X.xe e s'
section
variable {X : Cx} {CX : CXT} {k : Nat} {f C : Addr} {fd : FuncData} {ps : List Str} {sp : Sp} {dvs : List V} {ds : List Value} {E : XK} {x m : Str} {p pos apos : Pos} {e o : Expr} {es : List Expr} {ta : TE} {t : TA}
theorem run_fn {pins : List (Addr × Obj)} {σ : St} {H : Hp} {s : Shared} {Q : VK} {us : List Value} {vs : List V} (F : FnOk X.prog X.w X.K X.mg X.base CX k f fd ps sp) (hr : Room k X.A) (hb : Binds X.K fd ps ds) (hd : Vals dvs ds) (hx : xj6 CX X E)
  (I : Inv X pins σ H s) (r : Vals vs us) (h : sp (vs ++ dvs) H Q E) : wpAny (model X.prog X.w) X.A (call (.ref f) us) (EP X pins σ Q) X.xe s := by
 have r2 : Vals (vs ++ dvs) (us ++ ds) := r.append hd
 have hl : (us ++ ds).length = ps.length := by rw [← r2.length]; exact F.len _ _ _ _ h
 refine wpAny_call (codeAny_mono (F.run X.A X.stack s H ⟨us, []⟩ (us ++ ds) (vs ++ dvs) Q E hr I.env0 (hb s us I.kIn hl) r2 h) fun r s' hq => ?_)
 cases r with
 | error e => exact hx pins σ H s e s' I hq
 | ok fl =>
  cases fl with
  | ret u => exact I.after hq
  | next => exact False.elim hq
  | brk => exact False.elim hq
  | cont => exact False.elim hq
theorem zb8 (F : FnOk X.prog X.w X.K X.mg X.base CX k f fd ps sp) (hr : Room k X.A) (hg : Gl X x) (hm : X.mg x = some (.ref f)) (hk : PySem.W.keepIn X.K (.ref f) = true) (hb : Binds X.K fd ps ds) (hd : Vals dvs ds) (hx : xj6 CX X E)
  (ha : PA X (e :: es) t) (hdb : (x == ("__debug__" : Str)) = false := by decide) (he : starEach (e :: es) X.env = (false, eval e X.env) :: starEach es X.env := by rfl) (hpl : (backTo pos (starEach es X.env)).any (·.1) = false := by rfl) :
  PE X (.Call (.Name x p) (e :: es) [] pos) (zm2 sp dvs E t) := by
 intro pins s σ H Q I h
 refine wpAny_Call_Name_kw (xg5 I hg hm ?_ hdb)
 refine PySem.W.callWith_K (h₀ := X.base) I.ok.mod.kin hk (thn (ha pos pins s σ H _ I h) fun us s1 ⟨vs, H1, I1, r, q⟩ => ⟨I1.kIn, ?_⟩) he hpl
 exact run_fn F hr hb hd hx I1 r q
end
section
variable {X : Cx} {CX : CXT} {k : Nat} {f C : Addr} {fd : FuncData} {ps ks : List Str} {sp : Sp} {E : XK} {x m : Str} {p pos apos kpos : Pos} {e o : Expr} {es : List Expr} {kws : List Keyword} {te ta : TE} {t tk : TA} {nm : Option Str}
variable {g : List Value -> List Value -> List Value} {gV : List V -> List V -> List V}
end
structure zd3 (N P : List Str) (sc : Scope) : Prop where
 kind : sc.kind = .function
 co : sc.isCoroutine = false
 gen : sc.isGenerator = false
 nd : N.Nodup
 pre : N.take P.length = P
 par : ∀ x ∈ P, sc.names.lookup x = some .local ∨ sc.names.lookup x = some .cell
 nofree : ∀ y ∈ sc.names, y.2 ≠ .free
theorem yj5 {kindOf : Str -> Option NameKind} {x : Str} : ∀ {binds : List (Str × Value)} {m : Str -> Option Value}, (∀ v, (x, v) ∉ binds) -> bindL kindOf binds m x = m x
 | [], _, _ => rfl
 | (n, v) :: r, m, h => by
  unfold bindL
  rw [yj5 fun w hw => h w (List.mem_cons_of_mem _ hw)]
  split
  ·have : x ≠ n := by rintro rfl; exact h v List.mem_cons_self
   simp [this]
  ·rfl
theorem yk0 {kindOf : Str -> Option NameKind} {x : Str} : ∀ {binds : List (Str × Value)} {m : Str -> Option Value}, (∀ v, (x, v) ∉ binds) -> bindC kindOf binds m x = m x
 | [], _, _ => rfl
 | (n, v) :: r, m, h => by
  unfold bindC
  rw [yk0 fun w hw => h w (List.mem_cons_of_mem _ hw)]
  split
  ·rfl
  ·have : x ≠ n := by rintro rfl; exact h v List.mem_cons_self
   simp [this]
theorem yk3 {kindOf : Str -> Option NameKind} {x : Str} {v : Value} : ∀ {P : List Str} {vs : List Value} {i : Nat} {m : Str -> Option Value}, P.Nodup -> P[i]? = some x -> vs[i]? = some v -> kindOf x = some .local ->
  bindL kindOf (P.zip vs) m x = some v
 | [], _, _, _, _, h, _, _ => by simp at h
 | _ :: _, [], _, _, _, _, h, _ => by simp at h
 | p :: P, w :: vs, 0, m, nd, h1, h2, hk => by
  simp at h1 h2; subst h1; subst h2
  show bindL kindOf ((p, w) :: P.zip vs) m p = _
  unfold bindL
  rw [yj5 fun v hv => (List.nodup_cons.mp nd).1 (List.of_mem_zip hv).1, if_pos hk]
  simp
 | p :: P, w :: vs, i + 1, m, nd, h1, h2, hk => by
  show bindL kindOf ((p, w) :: P.zip vs) m x = _
  unfold bindL
  exact yk3 (i := i) (List.nodup_cons.mp nd).2 (by simpa using h1) (by simpa using h2) hk
theorem yk7 {kindOf : Str -> Option NameKind} {x : Str} {v : Value} : ∀ {P : List Str} {vs : List Value} {i : Nat} {m : Str -> Option Value}, P.Nodup -> P[i]? = some x -> vs[i]? = some v -> kindOf x ≠ some .local ->
  bindC kindOf (P.zip vs) m x = some v
 | [], _, _, _, _, h, _, _ => by simp at h
 | _ :: _, [], _, _, _, _, h, _ => by simp at h
 | p :: P, w :: vs, 0, m, nd, h1, h2, hk => by
  simp at h1 h2; subst h1; subst h2
  show bindC kindOf ((p, w) :: P.zip vs) m p = _
  unfold bindC
  rw [yk0 fun v hv => (List.nodup_cons.mp nd).1 (List.of_mem_zip hv).1, if_neg hk]
  simp
 | p :: P, w :: vs, i + 1, m, nd, h1, h2, hk => by
  show bindC kindOf ((p, w) :: P.zip vs) m x = _
  unfold bindC
  exact yk7 (i := i) (List.nodup_cons.mp nd).2 (by simpa using h1) (by simpa using h2) hk
def yj7 (N : List Str) (vs : List V) : St := vs.map some ++ List.replicate (N.length - vs.length) none
def cxOf (CX : CXT) (P : Program) (w : World) (K : PySem.W.Frag) (mg : Str -> Option Value) (base : Heap) (N : List Str) (qual : Str) (scope : Scope) (f : Addr) (cd : Value) (A : Around) (outer : List Env) (s : Shared) (H : Hp) (E : XK) : Cx where
 prog := P
 w := w
 K := K
 mg := mg
 base := base
 A := A.deeper (envOfC qual scope s.heap.objs.size f cd)
 N := N
 s₀ := s
 H₀ := H
 env := envOfC qual scope s.heap.objs.size f cd
 outer := outer
 stack := envOfC qual scope s.heap.objs.size f cd :: outer
 ex := []
 calm := true
 fn := fun _ => true
 pn := []
 xe := fun e s' => wpAny (model P w) (A.deeper (envOfC qual scope s.heap.objs.size f cd)) (leaving (envOfC qual scope s.heap.objs.size f cd) e) (fun _ s'' => CX outer H s E e s'') (fun e' s'' => CX outer H s E e' s'') s'
theorem yq1 {sc : Scope} {n : Nat} {x : Str} (h : sc.names.lookup x = some .cell) : ∃ c, (cellsFrom n sc.names []).lookup x = some c := by
 have q := PySem.W.cellsFrom_some sc.names n [] (.inl h)
 exact Option.isSome_iff_exists.mp q
theorem xc5 {CX : CXT} {P : Program} {w : World} {K : PySem.W.Frag} {mg : Str -> Option Value} {base : Heap} {N ps : List Str} {qual : Str} {scope : Scope} {f : Addr} {cd : Value} {A : Around} {outer : List Env} {s s1 : Shared} {H : Hp} {E : XK} {us : List Value} {vs : List V}
  (S : zd3 N ps scope) (hd : A.handled = none) (e0 : Env0 P w K mg base A outer s H) (hl : vs.length = ps.length) (r : Vals vs us)
  (x : InCallC s s.heap.objs.size (bindL (envOfC qual scope s.heap.objs.size f cd).kindOf (ps.zip us) fun _ => none) (cellsFrom (s.heap.objs.size + 1) scope.names []) (bindC (envOfC qual scope s.heap.objs.size f cd).kindOf (ps.zip us) fun _ => none) s1) :
  Inv (cxOf CX P w K mg base N qual scope f cd A outer s H E) [] (yj7 N vs) H s1 := by
 have hpl : ps.length <= N.length := by have := congrArg List.length S.pre; rw [List.length_take] at this; (clear hl; omega)
 obtain ⟨h1, tk, rfl, hk⟩ := x.done
 have noA : ∀ b : Addr, b ∉ (cxOf CX P w K mg base N qual scope f cd A outer s H E).ex := fun b z => absurd (show b ∈ ([] : List Addr) from z) (by simp)
 refine ⟨⟨e0.mod, S.kind, rfl, rfl, Nat.le_refl _, fun y z c h1 h2 => ?_, fun y hy => ?_, fun y c _ h => ?_, fun _ => hd, Around.frames_deeper e0.frames, .inr ⟨rfl, rfl⟩, fun b z => absurd z (noA b), e0.bs, e0.bsz, fun b _ _ => noA b, fun b z => absurd z (noA b), e0.funs, e0.frf⟩,
  rfl, e0.bare, Un.kept hk, ⟨_, x.toInCall.ns, fun i y v h1 h2 h3 => ?_⟩, fun y c h => ⟨_, x.cell y c h⟩, e0.hok.fresh (Nat.le_refl _), fun y c h => ?_, fun p hp => absurd (show p ∈ ([] : List (Addr × Obj)) from hp) (by simp), e0.hok.kept hk, ?_⟩
 ·exact name_of_addr x.apart (PySem.mem_of_lookup h1) (PySem.mem_of_lookup h2)
 ·have hy : scope.names.lookup y = some .cell ∨ scope.names.lookup y = some .free := hy
  rcases hy with hy | hy
  ·exact yq1 hy
  ·exact absurd rfl (S.nofree _ (PySem.mem_of_lookup hy))
 ·exact Nat.le_of_lt (x.above y c (PySem.mem_of_lookup h))
 ·have hi : i < vs.length := by
   unfold yj7 at h2
   by_cases hi : i < vs.length
   ·exact hi
   ·rw [List.getElem?_append_right (by simpa using hi)] at h2
    rw [List.getElem?_replicate] at h2
    split at h2 <;> cases h2
  have ha : vs[i]? = some v := by
   unfold yj7 at h2
   rw [List.getElem?_append_left (by simpa using hi), List.getElem?_map] at h2
   cases e : vs[i]? with
   | none => rw [e] at h2; cases h2
   | some a => rw [e] at h2; cases h2; rfl
  obtain ⟨u, hu, rv⟩ := r.get ha
  have hp : ps[i]? = some y := by
   rw [← S.pre, List.getElem?_take_of_lt (by (clear hpl; omega))]; exact h1
  have ndP : ps.Nodup := by rw [← S.pre]; exact S.nd.sublist (List.take_sublist _ _)
  refine ⟨u, rv, ?_⟩
  rcases S.par y (List.mem_of_getElem? hp) with k | k
  ·exact .inl ⟨k, yk3 ndP hp hu k⟩
  ·obtain ⟨c, e⟩ := yq1 (n := s.heap.objs.size + 1) k
   refine .inr ⟨.inl k, c, e, ?_⟩
   have q := x.cell y c e
   rw [yk7 ndP hp hu (by show scope.names.lookup y ≠ _; rw [k]; decide)] at q
   exact q
 ·exact e0.hok.fresh (Nat.le_of_lt (x.above y c (PySem.mem_of_lookup h)))
 ·unfold yj7
  show _ = N.length
  rw [List.length_append, lqm, List.length_replicate]
  omega
theorem fn_of {CX : CXT} {P : Program} {w : World} {K : PySem.W.Frag} {mg : Str -> Option Value} {base : Heap} {k : Nat} {f : Addr} {name qual : Str} {params : Arguments} {body : List Stmt} {scope : Scope} {dV kV doc pm cdv ct oc : Value} {an od : Option Addr}
  {osl : Array (Option Value)} {N ps : List Str} {sp : Sp} (lk : K.lookup f = some ⟨oc, od, .func (PySem.W.fnOf name qual params body scope dV kV doc pm an cdv ct), osl⟩) (hcd : PySem.W.codeIn K cdv qual = true) (S : zd3 N ps scope)
  (len : ∀ vs H Q E, sp vs H Q E -> vs.length = ps.length)
  (hbody : ∀ (A : Around) (outer : List Env) (s : Shared) (H : Hp) (vs : List V) (Q : VK) (E : XK), Room k (A.deeper (envOfC qual scope s.heap.objs.size f cdv)) -> sp vs H Q E ->
   ∃ t, PSs (cxOf CX P w K mg base N qual scope f cdv A outer s H E) body t /\ t { nx := fun _ H' => Q .non H', rt := Q } (yj7 N vs) H) :
  FnOk P w K mg base CX (k + 1) f (PySem.W.fnOf name qual params body scope dV kV doc pm an cdv ct) ps sp := by
 refine ⟨len, fun A outer s H args us vs Q E hr e0 hb r hsp => ?_⟩
 have hl := len _ _ _ _ hsp
 have KX : K.In s.heap := e0.mod.kin.keeps fun b o e => (e0.bs b o e).1
 have lim : s.heap.NoLimit := e0.mod.nolimit.keeps fun b o e => (e0.bs b o e).1
 have hkind : ∀ y ∈ ps.zip us, scope.names.lookup y.1 = some .local ∨ (scope.names.lookup y.1 = some .cell /\ ((cellsFrom (s.heap.objs.size + 1) scope.names []).lookup y.1).isSome = true) := fun ⟨n, v⟩ hy => by
  rcases S.par n (List.of_mem_zip hy).1 with q | q
  ·exact .inl q
  ·exact .inr ⟨q, PySem.W.cellsFrom_some _ _ _ (.inl q)⟩
 refine codeAny_call_function hr.depth (KX _ _ lk) rfl S.co S.gen rfl (PySem.W.codeRec_of KX hcd) (hb _ _ _ _ ?_)
 refine wpAny_newFunctionEnv_cells S.kind hkind fun env he s1 x => ?_
 subst he
 refine ⟨lim.keeps x.toInCall.keep, codeAny_func ?_⟩
 obtain ⟨t, ht, hq⟩ := hbody A outer s H vs Q E (hr.deeper _) hsp
 have I : Inv (cxOf CX P w K mg base N qual scope f cdv A outer s H E) [] (yj7 N vs) H s1 := xc5 S hr.hd e0 hl r x
 refine wpAny_mono (ht [] s1 (yj7 N vs) H _ I hq) (fun fl s' hs => ?_) fun e s' hs => hs
 have fin : ∀ {σ' : St} {H' : Hp} {v : V} {u : Value}, Inv (cxOf CX P w K mg base N qual scope f cdv A outer s H E) [] σ' H' s' -> RelV v u -> Q v H' -> CE outer P w H s Q u s' :=
  fun {σ' H' v u} J rv q => ⟨v, H', J.os, J.bare, J.base, J.hok, rv, q⟩
 cases fl with
 | ret u =>
  obtain ⟨v, σ', H', J, rv, q⟩ := hs
  exact fin J rv q
 | next =>
  obtain ⟨σ', H', J, q⟩ := hs
  exact fin (v := V.non) (u := Value.none) J rfl q
 | brk =>
  obtain ⟨_, _, _, q⟩ := hs
  exact False.elim q
 | cont =>
  obtain ⟨_, _, _, q⟩ := hs
  exact False.elim q
end L2
namespace L2
open PySem PySem.Spec PyProof.Rows
section
variable {X : Cx} {x : Str} {p pos : Pos} {e : Expr} {es : List Expr} {t : TA} {id T : String} {r : List V -> Hp -> VK -> Prop}
def tCB (r : List V -> Hp -> VK -> Prop) (t : TA) : TE := fun σ H Q => t σ H fun vs H1 => r vs H1 Q
theorem zd6 (hc : CallR X (.builtin id) r) (hg : Gl X x) (hm : X.mg x = none) (hv : bootBuiltins x = some (.builtin id)) (ha : PA X (e :: es) t) (hn : x ≠ "__name__" := by decide) (hdb : (x == ("__debug__" : Str)) = false := by decide)
  (he : starEach (e :: es) X.env = (false, eval e X.env) :: starEach es X.env := by rfl) (hpl : (backTo pos (starEach es X.env)).any (·.1) = false := by rfl) : PE X (.Call (.Name x p) (e :: es) [] pos) (tCB r t) := by
 intro pins s σ H Q I h
 refine wpAny_Call_Name_kw (zr2 I hg hm hv ?_ hn hdb)
 exact PyProof.Rows.callWith_builtin1 (thn (ha pos pins s σ H _ I h) fun us s1 ⟨vs, H1, I1, r1, q1⟩ => hc pins s1 σ H1 vs us Q I1 r1 q1) he hpl
theorem zd1 (hc : CallR X (.type T) r) (hg : Gl X x) (hm : X.mg x = none) (hv : bootBuiltins x = some (.type T)) (ha : PA X (e :: es) t) (hn : x ≠ "__name__" := by decide) (hdb : (x == ("__debug__" : Str)) = false := by decide)
  (he : starEach (e :: es) X.env = (false, eval e X.env) :: starEach es X.env := by rfl) (hpl : (backTo pos (starEach es X.env)).any (·.1) = false := by rfl) : PE X (.Call (.Name x p) (e :: es) [] pos) (tCB r t) := by
 intro pins s σ H Q I h
 refine wpAny_Call_Name_kw (zr2 I hg hm hv ?_ hn hdb)
 exact PyProof.Rows.callWith_type1 (thn (ha pos pins s σ H _ I h) fun us s1 ⟨vs, H1, I1, r1, q1⟩ => hc pins s1 σ H1 vs us Q I1 r1 q1) he hpl
end
end L2
namespace HT
open PySem PyProof.Rows
section
open PySem.SeqAt
open PySem.AutoSeq1 (wpAny_loadPart')
open PySem.MeetsSeq PySem.MeetsSeq2 PySem.MeetsSeq3
end
section
variable {prog : Program} {w : World} {A : Around} {E : Value -> Shared -> Prop} {s : Shared}
theorem xw1 {t b : Addr} {vs ws : List Value} {Q : Value -> Shared -> Prop} (ht : IsTup s.heap t vs.toArray) (hb : IsTup s.heap b ws.toArray) (hv : vs ≠ [])
  (h1 : ws = [] -> Q (.ref t) s) (h2 : ws ≠ [] -> Q (.ref s.heap.objs.size) { s with heap := s.heap.push { cls := .type "tuple", data := .seq (vs ++ ws).toArray } })
  (hsz : vs.length + ws.length <= sizeLine) : wpAny (model prog w) A (binaryOp .Add (.ref t) (.ref b)) Q E s := by
 obtain ⟨⟨cls, dd, data, sl⟩, ho, hc, n, hd⟩ := id ht
 obtain ⟨⟨cls2, dd2, data2, sl2⟩, ho2, hc2, n2, hd2⟩ := id hb
 simp only at hc hd hc2 hd2
 subst hc hd hc2 hd2
 have e : vs.toArray ++ ws.toArray = (vs ++ ws).toArray := by simp
 by_cases hw : ws = []
 ·exact concat_meets ⟨_, ho, rfl⟩ ⟨_, ho2, rfl⟩ noFill_tuple_add seq_tuple_add PySem.F.slot_tuple_add PySem.F.entry_tuple_add (PySem.F.args_tuple_add_2 _ _)
   (tuple_addW1 t b vs.toArray ws.toArray n n2 dd dd2 sl sl2 (by simpa using hv) (by simp [hw])) ⟨ho, ho2, h1 hw⟩
 ·refine concat_meets ⟨_, ho, rfl⟩ ⟨_, ho2, rfl⟩ noFill_tuple_add seq_tuple_add PySem.F.slot_tuple_add PySem.F.entry_tuple_add (PySem.F.args_tuple_add_2 _ _)
   (tuple_addW2 t b vs.toArray ws.toArray n n2 dd dd2 sl sl2 (by simpa using hv) (by simpa using hw) (by rw [List.size_toArray, List.size_toArray]; exact hsz)) ⟨ho, ho2, ?_⟩
  rw [e]
  exact h2 hw
def sIx (n d : Nat) : Option Int -> Nat
 | none => d
 | some v => if v < 0 then (v + (n : Int)).toNat else min v.toNat n
theorem yq8 (n d : Nat) : sIx n d none = d := rfl
theorem yg1 (n d k : Nat) : sIx n d (some (k : Int)) = min k n := by
 show (if (k : Int) < 0 then ((k : Int) + (n : Int)).toNat else min (k : Int).toNat n) = min k n
 rw [if_neg (by omega), Int.toNat_natCast]
theorem sIx_le (n d : Nat) (hd : d <= n) (o : Option Int) : sIx n d o <= n := by
 cases o with
 | none => exact hd
 | some v =>
  show (if v < 0 then (v + (n : Int)).toNat else min v.toNat n) <= n
  by_cases hv : v < 0
  ·rw [if_pos hv]; (clear hd; omega)
  ·rw [if_neg hv]; exact Nat.min_le_right _ _
theorem xc8 (v : Int) (n d : Nat) : (if v < 0 then max (v + (n : Int)) 0 else min v (n : Int)) = ((sIx n d (some v) : Nat) : Int) := by
 show (if v < 0 then max (v + (n : Int)) 0 else min v (n : Int)) = (((if v < 0 then (v + (n : Int)).toNat else min v.toNat n) : Nat) : Int)
 by_cases hv : v < 0
 ·simp only [if_pos hv]; (clear hv; omega)
 ·simp only [if_neg hv]; omega
theorem yv0 (lo hi : Option Int) (n : Nat) : Builtin.Slice.sliceAdjust lo hi 1 (n : Int) = (((sIx n 0 lo : Nat) : Int), ((sIx n n hi : Nat) : Int)) := by
 have h1 : ¬ ((1 : Int) < 0) := by omega
 unfold Builtin.Slice.sliceAdjust
 simp only [h1, if_false]
 refine Prod.ext ?_ ?_
 ·cases lo with
  | none => rfl
  | some v => exact xc8 v n 0
 ·cases hi with
  | none => rfl
  | some v => exact xc8 v n n
theorem yw0 (i j : Nat) : Builtin.Slice.slicePlaces (i : Int) (j : Int) 1 = j - i := by
 unfold Builtin.Slice.slicePlaces
 have h1 : (1 : Int) > 0 := by omega
 simp only [h1, if_true, Int.ediv_one]
 split <;> (clear h1; omega)
theorem yb2 {v : Value} {o : Option Int} {Q : Option Int -> Shared -> Prop} (p : IsPart v o) (h : Q o s) : wpAny (model prog w) A (Builtin.Slice.slicePartIndex v) Q E s := by
 cases p with
 | none => exact slicePart_none h
 | int i t => exact slicePart_int h
theorem zv2 {sl : Addr} {vl vu : Value} {lo hi : Option Int} {n : Nat} {Q : Int × Int × Nat -> Shared -> Prop} (hs : s.heap.IsSliceOf sl vl vu .none) (pl : IsPart vl lo) (pu : IsPart vu hi)
  (h : Q (((sIx n 0 lo : Nat) : Int), 1, sIx n n hi - sIx n 0 lo) s) : wpAny (model prog w) A (Builtin.Slice.sliceApplied (.ref sl) (pure (n : Int))) Q E s := by
 obtain ⟨os, hos, hcs, hds⟩ := id hs
 unfold Builtin.Slice.sliceApplied Builtin.Slice.sliceFields
 refine wpAny_bind (wpAny_bind (wpAny_field hos hds (x := vl) rfl (wpAny_bind (wpAny_field hos hds (x := vu) rfl (wpAny_bind (wpAny_field hos hds (x := .none) rfl (wpAny_pure ?_)))))))
 refine wpAny_bind (slicePart_none ?_)
 show wpAny _ _ (if ((1 : Int) == 0) = true then _ else _) _ _ s
 rw [if_neg (by decide)]
 refine wpAny_bind (yb2 pl (wpAny_bind (yb2 pu (wpAny_bind (wpAny_pure ?_)))))
 show wpAny _ _ (match Builtin.Slice.sliceAdjust lo hi 1 (n : Int) with | (lo, hi) => pure (lo, (1 : Int), Builtin.Slice.slicePlaces lo hi 1)) _ _ s
 rw [yv0 lo hi n]
 show wpAny _ _ (pure (((sIx n 0 lo : Nat) : Int), (1 : Int), Builtin.Slice.slicePlaces ((sIx n 0 lo : Nat) : Int) ((sIx n n hi : Nat) : Int) 1)) _ _ s
 rw [yw0]
 exact wpAny_pure h
theorem xq0 (xs : Array Value) (i k : Nat) : ((List.range k).filterMap fun (m : Nat) => xs[((i : Int) + (m : Int) * 1).toNat]?).toArray = ((xs.toList.drop i).take k).toArray := by
 have e : (fun (m : Nat) => xs[((i : Int) + (m : Int) * 1).toNat]?) = fun m => xs[i + m]? := by
  funext m
  have : ((i : Int) + (m : Int) * 1).toNat = i + m := by omega
  rw [this]
 rw [e]
 have := pick_run xs i k
 rw [List.filterMap_map] at this
 have e2 : ((fun x => xs[x]?) ∘ fun x => i + x) = fun m => xs[i + m]? := rfl
 rw [e2] at this
 rw [this]
theorem zs2 {t sl : Addr} {items : Array Value} {vl vu : Value} {lo hi : Option Int} {Q : Value -> Shared -> Prop} (ht : IsTup s.heap t items) (hs : s.heap.IsSliceOf sl vl vu .none) (pl : IsPart vl lo) (pu : IsPart vu hi)
  (hw : ¬ (sIx items.size 0 lo = 0 /\ sIx items.size items.size hi = items.size))
  (h : Q (.ref s.heap.objs.size) { s with heap := s.heap.push { cls := .type "tuple", data := .seq ((items.toList.drop (sIx items.size 0 lo)).take (sIx items.size items.size hi - sIx items.size 0 lo)).toArray } })
  (hsz : items.size <= sizeLine) : wpAny (model prog w) A (getItem (.ref t) (.ref sl)) Q E s := by
 have htake : sizeOk (.seq ((items.toList.drop (sIx items.size 0 lo)).take (sIx items.size items.size hi - sIx items.size 0 lo)).toArray) := by
  show ((items.toList.drop (sIx items.size 0 lo)).take (sIx items.size items.size hi - sIx items.size 0 lo)).toArray.size <= sizeLine
  rw [List.size_toArray, List.length_take, List.length_drop, Array.length_toList]
  (clear hw; omega)
 have hj : sIx items.size items.size hi <= items.size := sIx_le _ _ (Nat.le_refl _) hi
 obtain ⟨os, hos, hcs, hds⟩ := id hs
 have hTs : s.TypeIs (.ref sl) "slice" := ⟨os, hos, hcs⟩
 unfold getItem
 try with_reducible refine wpAny_holding ?_
 first | refine wpAny_bind (wpAny_pure ?_) | skip
 refine wpAny_bind (wpAny_sequenceKey ht.typeIs (by decide) ?_)
 refine wpAny_bind (wpAny_callSpecial?_slot (name := Str.ofString "__getitem__") ht.typeIs PyProof.Rows.slot_tuple_getitem
  (wpAny_call_entry PyProof.Rows.slot_tuple_getitem ht.typeIs entry_tuple_getitem ?_ (args_tuple_getitem _ _)))
 show wpAny _ _ (Builtin.Tuple.tupleItemsOf (.ref t) >>= _) _ _ s
 refine wpAny_bind (tupleItemsOf_ ht ?_)
 refine wpAny_bind (wpAny_typeOf hTs ?_)
 rw [if_pos (by decide)]
 refine wpAny_bind (zv2 hs pl pu ?_)
 have hno : ¬ ((((sIx items.size 0 lo : Nat) : Int) == 0 && (1 : Int) == 1 && (sIx items.size items.size hi - sIx items.size 0 lo) == items.size) = true) := by
  intro q
  rw [Bool.and_eq_true, Bool.and_eq_true] at q
  have q1 : ((sIx items.size 0 lo : Nat) : Int) = 0 := eq_of_beq q.1.1
  have q2 : sIx items.size items.size hi - sIx items.size 0 lo = items.size := eq_of_beq q.2
  exact hw ⟨by (clear q2 q hj hsz hw; omega), by (clear q1 q hsz hw; omega)⟩
 show wpAny _ _ (if (((sIx items.size 0 lo : Nat) : Int) == 0 && (1 : Int) == 1 && (sIx items.size items.size hi - sIx items.size 0 lo) == items.size) = true then _ else _) _ _ s
 rw [if_neg hno, xq0]
 first
  | exact wpAny_bind (m := Builtin.Tuple.tupleExact _) (wpAny_newObj_type (wpAny_pure ⟨_, rfl, wpAny_pure h⟩) htake)
  | exact wpAny_bind (m := Builtin.Tuple.tupleExact _) (wpAny_newObj_type (wpAny_bind (wpAny_pure (wpAny_pure ⟨_, rfl, wpAny_pure h⟩))) htake)
  | exact wpAny_bind (wpAny_bind (m := Builtin.Tuple.tupleExact _) (wpAny_newObj_type (wpAny_pure (wpAny_pure ⟨_, rfl, wpAny_pure h⟩)) htake))
  | exact wpAny_bind (wpAny_bind (m := Builtin.Tuple.tupleExact _) (wpAny_newObj_type (wpAny_pure ⟨_, rfl, wpAny_pure h⟩) htake))
end
end HT
namespace L2
open PySem PySem.Spec PyProof.Rows
abbrev TO := St -> Hp -> (Option Int -> Hp -> Prop) -> Prop
def PO (X : Cx) (e : Option Expr) (t : TO) : Prop :=
 ∀ (pins : List (Addr × Obj)) (s : Shared) (σ : St) (H : Hp) (Q : Option Int -> Hp -> Prop), Inv X pins σ H s -> t σ H Q ->
  wpAny (model X.prog X.w) X.A (evalPart e X.env) (fun u s' => ∃ o H', Inv X pins σ H' s' /\ IsPart u o /\ Q o H') X.xe s
def xf6 : TO := fun _ H Q => Q none H
def tPart (t : TE) : TO := fun σ H Q => t σ H fun x H1 => ∃ i, x = .int i /\ Q (some i) H1
section
variable {X : Cx} {e : Expr} {te : TE} {lo hi : Option Expr} {tl th : TO} {pos p2 : Pos}
theorem zm1 : PO X none xf6 := by
 intro pins s σ H Q I h
 rw [evalPart_none]
 exact wpAny_pure ⟨none, H, I, .none, h⟩
theorem zk8 (h : PE X e te) : PO X (some e) (tPart te) := by
 intro pins s σ H Q I hw
 rw [evalPart_some]
 refine thn (h pins s σ H _ I hw) fun u s1 ⟨x, H1, I1, r1, q1⟩ => ?_
 obtain ⟨i, rfl, q⟩ := q1
 obtain ⟨t, rfl⟩ := r1
 exact ⟨some i, H1, I1, .int i t, q⟩
def SlR (X : Cx) (r : V -> Option Int -> Option Int -> Hp -> VK -> Prop) : Prop :=
 ∀ (pins : List (Addr × Obj)) (s : Shared) (σ : St) (H : Hp) (x : V) (v vl vu : Value) (lo hi : Option Int) (sl : Addr) (Q : VK), Inv X pins σ H s -> RelV x v -> s.heap.IsSliceOf sl vl vu .none -> IsPart vl lo -> IsPart vu hi -> r x lo hi H Q ->
  ∃ T id, typeLookup (.type T) "__getitem__" = pure (some (.builtin id)) /\ s.TypeIs v T /\ wpAny (model X.prog X.w) X.A (getItem v (.ref sl)) (EP X pins σ Q) X.xe s
def tSl (r : V -> Option Int -> Option Int -> Hp -> VK -> Prop) (te : TE) (tl th : TO) : TE := fun σ H Q => te σ H fun x H1 => tl σ H1 fun l H2 => th σ H2 fun u H3 => r x l u H3 Q
theorem zj8 {r : V -> Option Int -> Option Int -> Hp -> VK -> Prop} (hr : SlR X r) (he : PE X e te) (hl : PO X lo tl) (hu : PO X hi th) : PE X (.Subscript e (.Slice lo hi none p2) pos) (tSl r te tl th) := by
 intro pins s σ H Q I h
 refine Subscript_ (thn (he pins s σ H _ I h) fun v s1 ⟨x, H1, I1, r1, q1⟩ => ?_)
 refine wpAny_Slice (thn (hl pins s1 σ H1 _ I1 q1) fun vl s2 ⟨l, H2, I2, pl, q2⟩ => thn (hu pins s2 σ H2 _ I2 q2) fun vu s3 ⟨u, H3, I3, pu, q3⟩ => ?_)
 rw [evalPart_none]
 refine wpAny_pure ?_
 have I4 : Inv X pins σ H3 { s3 with heap := s3.heap.push { cls := .type "slice", data := .fields #[vl, vu, .none] } } := I3.kept (t' := s3.toks) fun b ob q => Heap.get?_push_of_some _ q
 obtain ⟨T, id, hT, ht, hg⟩ := hr pins { s3 with heap := s3.heap.push { cls := .type "slice", data := .fields #[vl, vu, .none] } } σ H3 x v vl vu l u s3.heap.objs.size Q I4 r1 (Heap.IsSliceOf.new ..) pl pu q3
 show wpAny (model X.prog X.w) X.A (subscriptTail e (.Slice lo hi none p2) v (.ref s3.heap.objs.size)) (EP X pins σ Q) X.xe { s3 with heap := s3.heap.push { cls := .type "slice", data := .fields #[vl, vu, .none] } }
 exact tail_any (ops := [.ref s3.heap.objs.size, v]) ht hT hg (by with_unfolding_all rfl)
def cutV (xs : List V) (lo hi : Option Int) : List V := (xs.drop (HT.sIx xs.length 0 lo)).take (HT.sIx xs.length xs.length hi - HT.sIx xs.length 0 lo)
theorem zz0 (xs : List V) (lo hi : Option Int) : (cutV xs lo hi).length <= xs.length := by
 unfold cutV
 rw [List.length_take, List.length_drop]
 omega
def rSlT (K : PySem.W.Frag) : V -> Option Int -> Option Int -> Hp -> VK -> Prop := fun x lo hi H Q => ∃ a xs, x = .ref a /\ SqT K H a xs /\
 ¬ (HT.sIx xs.length 0 lo = 0 /\ HT.sIx xs.length xs.length hi = xs.length) /\ ∀ p, H p = none -> Q (.ref p) (upd H p (.tup (cutV xs lo hi)))
theorem xv2 : SlR X (rSlT X.K) := by
 intro pins s σ H x v vl vu lo hi sl Q I rx hs pl pu h
 obtain ⟨a, xs, rfl, hx, hw, q⟩ := h
 cases rx
 obtain ⟨its, r, ht, hz⟩ := I.tuple hx
 have hlen : its.toArray.size = xs.length := by rw [List.size_toArray]; exact r.length.symm
 refine ⟨"tuple", _, PyProof.Rows.slot_tuple_getitem.lookup, ht.typeIs, ?_⟩
 refine HT.zs2 ht hs pl pu (by rw [hlen]; exact hw) ?_ (by rw [hlen]; exact hz)
 rw [hlen]
 refine ⟨.ref s.heap.objs.size, _, I.laid (t' := s.toks) (o := .tup (cutV xs lo hi)) (fun b ob q => Heap.get?_push_of_some _ q) (Nat.le_refl _) ?_, rfl, q _ (I.hok.fresh (Nat.le_refl _))⟩
 exact ⟨⟨Nat.le_trans (zz0 xs lo hi) hz, _, Heap.get?_push_size _ rfl, rfl⟩, _, (r.drop (HT.sIx xs.length 0 lo)).take (HT.sIx xs.length xs.length hi - HT.sIx xs.length 0 lo), IsTup.new _ _⟩
def rCatT (K : PySem.W.Frag) : R2 := fun x y H Q => ∃ a b xs ys, x = .ref a /\ y = .ref b /\ SqT K H a xs /\ SqT K H b ys /\ xs ≠ [] /\ xs.length + ys.length <= sizeLine /\
 (ys = [] -> Q (.ref a) H) /\ (ys ≠ [] -> ∀ p, H p = none -> Q (.ref p) (upd H p (.tup (xs ++ ys))))
theorem Vals.nil_iff {xs : List V} {us : List Value} (r : Vals xs us) : us = [] ↔ xs = [] := by
 cases r with
 | nil => simp
 | cons _ _ => simp
theorem xx6 : OpR X (binaryOp .Add) (rCatT X.K) := by
 intro pins s σ H x y v u Q I rx ry h
 obtain ⟨a, b, xs, ys, rfl, rfl, ha, hb, hx, hz, q1, q2⟩ := h
 cases rx
 cases ry
 obtain ⟨its, r1, p1, _⟩ := I.tuple ha
 obtain ⟨its2, r2, p2, _⟩ := I.tuple hb
 refine HT.xw1 p1 p2 (fun z => hx (r1.nil_iff.mp z)) (fun z => ⟨.ref a, H, I, rfl, q1 (r2.nil_iff.mp z)⟩) (fun z => ?_) (by rw [← r1.length, ← r2.length]; exact hz)
 refine ⟨.ref s.heap.objs.size, _, I.laid (t' := s.toks) (o := .tup (xs ++ ys)) (fun b ob q => Heap.get?_push_of_some _ q) (Nat.le_refl _) ?_, rfl, q2 (fun w => z (r2.nil_iff.mpr w)) _ (I.hok.fresh (Nat.le_refl _))⟩
 exact ⟨⟨by rw [List.length_append]; exact hz, _, Heap.get?_push_size _ rfl, rfl⟩, _, r1.append r2, IsTup.new _ _⟩
end
end L2
namespace L2
open PySem PySem.Spec PyProof.Rows
def ixN (n : Nat) (i : Int) : Option Nat := if 0 <= i then (if i < n then some i.toNat else none) else if -(n : Int) <= i then some (i + n).toNat else none
def atI {α : Type} (xs : List α) (i : Int) : Option α := (ixN xs.length i).bind fun j => xs[j]?
theorem xb4 {n : Nat} {i : Int} {j : Nat} (h : ixN n i = some j) : seqIndex? i n = some j /\ j < n /\ -(n : Int) <= i /\ i < n := by
 unfold ixN at h
 by_cases h0 : 0 <= i
 ·rw [if_pos h0] at h
  by_cases h1 : i < n
  ·rw [if_pos h1] at h
   have e : i.toNat = j := Option.some.inj h
   exact ⟨by rw [seqIndex_of h0 h1, e], by omega, by (clear e h1; omega), h1⟩
  ·rw [if_neg h1] at h; cases h
 ·rw [if_neg h0] at h
  by_cases h1 : -(n : Int) <= i
  ·rw [if_pos h1] at h
   have e : (i + n).toNat = j := Option.some.inj h
   exact ⟨by rw [seqIndex_neg (by (clear e h1; omega)) h1, e], by omega, h1, by (clear e h1; omega)⟩
  ·rw [if_neg h1] at h; cases h
theorem yn1 {α : Type} {xs : List α} {i : Int} {v : α} (h : atI xs i = some v) : ∃ j, seqIndex? i xs.length = some j /\ xs[j]? = some v /\ j < xs.length /\ -(xs.length : Int) <= i /\ i < xs.length := by
 unfold atI at h
 cases e : ixN xs.length i with
 | none => rw [e] at h; cases h
 | some j =>
  rw [e] at h
  obtain ⟨h1, h2, h3, h4⟩ := xb4 e
  exact ⟨j, h1, h, h2, h3, h4⟩
theorem zq2 {α : Type} {xs : List α} {j : Nat} {v : α} (h : xs[j]? = some v) : atI xs (j : Int) = some v := by
 have hj : j < xs.length := (List.getElem?_eq_some_iff.mp h).1
 have e : ixN xs.length (j : Int) = some j := by
  unfold ixN
  rw [if_pos (by (clear hj; omega)), if_pos (by omega)]; simp
 unfold atI; rw [e]; exact h
def yp1 (b : Expr) : Prop := ∀ o i, subscripted b false o i = operate [o, i] (getItem o i)
def IxR (X : Cx) (r : R2) : Prop :=
 ∀ (value slice : Expr) (pins : List (Addr × Obj)) (s : Shared) (σ : St) (H : Hp) (x y : V) (v u : Value) (Q : VK), Inv X pins σ H s -> RelV x v -> RelV y u -> r x y H Q ->
  subscripted slice false v u = operate [v, u] (getItem v u) -> wpAny (model X.prog X.w) X.A (subscriptTail value slice v u) (EP X pins σ Q) X.xe s
def MtR (X : Cx) (id : String) (r : V -> List V -> Hp -> VK -> Prop) : Prop :=
 ∀ (pins : List (Addr × Obj)) (s : Shared) (σ : St) (H : Hp) (x : V) (xs : List V) (v : Value) (us : List Value) (Q : VK), Inv X pins σ H s -> RelV x v -> Vals xs us -> r x xs H Q ->
  wpAny (model X.prog X.w) X.A (call (.builtin id) (v :: us)) (EP X pins σ Q) X.xe s
section
variable {X : Cx} {a b : Expr} {ta tb : TE} {pos : Pos}
theorem zw0 {r : R2} (hr : IxR X r) (ha : PE X a ta) (hb : PE X b tb) (hs : yp1 b) : PE X (.Subscript a b pos) (tOp r ta tb) := by
 intro pins s σ H Q I h
 exact Subscript_ (binT ha hb I h fun v u s2 x y H2 I2 rx ry q => hr a b pins s2 σ H2 x y v u Q I2 rx ry q (hs _ _))
def rIxL (K : PySem.W.Frag) : R2 := fun x y H Q => ∃ p xs i v, x = .ref p /\ y = .int i /\ SqL K H p xs /\ atI xs i = some v /\ Q v H
def rIxT (K : PySem.W.Frag) : R2 := fun x y H Q => ∃ p xs i v, x = .ref p /\ y = .int i /\ SqT K H p xs /\ atI xs i = some v /\ Q v H
def rIxS : R2 := fun x y H Q => ∃ z i c, x = .str z /\ y = .int i /\ z.length <= sizeLine /\ atI z.cps.toList i = some c /\ Q (.str ⟨#[c]⟩) H
theorem xw0 : IxR X (rIxL X.K) := by
 intro value slice pins s σ H x y v u Q I rx ry h hs
 obtain ⟨p, xs, i, z, rfl, rfl, hq, he, q⟩ := h
 cases rx
 obtain ⟨t, rfl⟩ := ry
 obtain ⟨its, r, pl, hz⟩ := I.list hq
 obtain ⟨j, h1, h2, h3, h4, h5⟩ := yn1 he
 obtain ⟨w, ew, rw'⟩ := r.get h2
 have hl := r.length
 have hn := yb6
 have fin : EP X pins σ Q w s := ⟨z, H, I, rw', q⟩
 by_cases h0 : 0 <= i
 ·have hj : i.toNat = j := by
   rw [seqIndex_of h0 h5] at h1
   exact Option.some.inj h1
  exact item_listR pl.isList h0 (by (clear hj h0 hl h4 h3; omega)) (by rw [hj]; simpa using ew) fin hs
 ·have hj : (i + (its.toArray.size : Int)).toNat = j := by
   rw [seqIndex_neg (by (clear hn hl h5 h4 h3 hz; omega)) h4] at h1
   rw [List.size_toArray, ← hl]
   exact Option.some.inj h1
  exact subscriptTail_builtinR (x := w) pl.isList.typeIs slot_list_getitem.lookup
   (wpAny_getItem_list_neg (Q := fun r s' => r = w /\ EP X pins σ Q r s') pl.isList (by (clear hj hn hl h5 h4 h3 hz; omega)) (by rw [List.size_toArray] <;> (clear hj h0 hn h5 h3 hz; omega)) (by (clear hj h0 hl h5 h3; omega)) (by rw [hj]; simpa using ew) ⟨rfl, fin⟩) hs
theorem zs9 : IxR X (rIxT X.K) := by
 intro value slice pins s σ H x y v u Q I rx ry h hs
 obtain ⟨p, xs, i, z, rfl, rfl, hq, he, q⟩ := h
 cases rx
 obtain ⟨t, rfl⟩ := ry
 obtain ⟨its, r, pl, hz⟩ := I.tuple hq
 obtain ⟨j, h1, h2, h3, h4, h5⟩ := yn1 he
 obtain ⟨w, ew, rw'⟩ := r.get h2
 have hl := r.length
 have hn := yb6
 have fin : EP X pins σ Q w s := ⟨z, H, I, rw', q⟩
 exact subscriptTail_builtinR (x := w) pl.typeIs slot_tuple_getitem.lookup
  (getItem_tuple (j := j) (Q := fun r s' => r = w /\ EP X pins σ Q r s') pl (by (clear hl h5 h3; omega)) (by (clear hl h4 h3; omega)) (by rw [List.size_toArray, ← hl]; exact h1) (by simpa using ew) ⟨rfl, fin⟩) hs
theorem xv3 : IxR X rIxS := by
 intro value slice pins s σ H x y v u Q I rx ry h hs
 obtain ⟨z, i, c, rfl, rfl, hz, he, q⟩ := h
 obtain ⟨t, rfl⟩ := rx
 obtain ⟨t', rfl⟩ := ry
 obtain ⟨j, h1, h2, h3, h4, h5⟩ := yn1 he
 have hl : z.cps.toList.length = z.length := by simp [Str.length]
 rw [hl] at h1 h4 h5
 have hn := yb6
 exact tail_any (typeIs_str s z t) slot_str_getitem.lookup (getItem_str (c := c) (by
  have e1 : decide (i < -(2 ^ 63 : Int)) = false := decide_eq_false (by (clear hl h5 h3; omega))
  have e2 : decide (i ≥ 2 ^ 63) = false := decide_eq_false (by (clear hl h4 h3; omega))
  rw [e1, e2, Bool.or_false]) (by rw [h1]; simpa using h2) ⟨.str ⟨#[c]⟩, H, I.tok _, ⟨_, rfl⟩, q⟩) hs
theorem yx0 (its : List Value) (n j : Nat) (u : Value) : Obj.mapSeq (·.setIfInBounds j u) { cls := .type "list", data := .seq its.toArray n } = { cls := .type "list", data := .seq (its.set j u).toArray n } := by
 simp [Obj.mapSeq]
theorem Inv.lst {pins : List (Addr × Obj)} {σ : St} {H : Hp} {s : Shared} {p : Addr} {xs : List V} (I : Inv X pins σ H s) (h : H p = some (.lst xs)) :
  ∃ (its : List Value) (n : Nat), Vals xs its /\ s.heap.get? p = some { cls := .type "list", data := .seq its.toArray n } /\ xs.length <= sizeLine := by
 obtain ⟨z, its, n, r, e⟩ := I.hok p _ h
 exact ⟨its, n, r, e, z⟩
theorem Inv.lstUpd {pins : List (Addr × Obj)} {σ : St} {H : Hp} {s : Shared} {p : Addr} {xs ys : List V} {its its' : List Value} {n n' : Nat} {f : Obj -> Obj} (I : Inv X pins σ H s) (h : H p = some (.lst xs))
  (ho : s.heap.get? p = some { cls := .type "list", data := .seq its.toArray n }) (hf : f { cls := .type "list", data := .seq its.toArray n } = { cls := .type "list", data := .seq its'.toArray n' }) (r : Vals ys its') (hz : ys.length <= sizeLine) (t : Nat) :
  Inv X pins σ (upd H p (.lst ys)) { s with heap := s.heap.update p f, toks := t } := by
 have e : (s.heap.update p f).get? p = some { cls := .type "list", data := .seq its'.toArray n' } := by
  rw [Heap.get?_update_self f ho (by rw [hf] <;> rfl), hf]
 refine I.write (x := p) (e := p) (by rw [h]; trivial) (.inl rfl) (fun b u hb q => (Heap.get?_update_other _ _ (Ne.symm hb)).trans q) ⟨_, e⟩ ?_
 exact ⟨hz, its', n', r, e⟩
def rSetL : V -> V -> V -> Hp -> (Hp -> Prop) -> Prop := fun o i v H Q => ∃ p xs k j, o = .ref p /\ i = .int k /\ H p = some (.lst xs) /\ ixN xs.length k = some j /\ Q (upd H p (.lst (xs.set j v)))
theorem zp8 : PSet X rSetL := by
 intro pins s σ H o i v ov iv u Q I ro ri rv h
 obtain ⟨p, xs, k, j, rfl, rfl, hp, hj, q⟩ := h
 cases ro
 obtain ⟨t, rfl⟩ := ri
 obtain ⟨its, n, r, ho, hz⟩ := I.lst hp
 obtain ⟨h1, h2, h3, h4⟩ := xb4 hj
 have hl := r.length
 have hn := yb6
 have I' : Inv X pins σ (upd H p (.lst (xs.set j v))) { s with heap := s.heap.update p (Obj.mapSeq (·.setIfInBounds j u)) } :=
  I.lstUpd hp ho (yx0 its n j u) (r.set rv j) (by rw [List.length_set]; exact hz) s.toks
 by_cases h0 : 0 <= k
 ·have hk : k.toNat = j := by
   rw [seqIndex_of h0 h4] at h1
   exact Option.some.inj h1
  exact PySem.W.ki_setAt ho h0 (by (clear hk h0 hl h3 h2; omega)) (by rw [List.size_toArray, ← hl]; exact h4) (by rw [hk]; exact ⟨_, I', q⟩)
 ·have hk : (k + (its.toArray.size : Int)).toNat = j := by
   rw [seqIndex_neg (by (clear hn hl h4 h3 h2 hz; omega)) h3] at h1
   rw [List.size_toArray, ← hl]
   exact Option.some.inj h1
  exact PySem.W.ki_setBack ho (by (clear hk hn hl h4 h3 h2 hz; omega)) (by rw [List.size_toArray, ← hl]; exact h3) (by (clear hk h0 hl h4 h2; omega)) (by rw [hk]; exact ⟨_, I', q⟩)
theorem yj6 (lo hi : Option Int) (n : Nat) : (sliceBounds lo hi none n).1 = ((HT.sIx n 0 lo : Nat) : Int) /\ (sliceBounds lo hi none n).2.1 = ((HT.sIx n n hi : Nat) : Int) /\ (sliceBounds lo hi none n).2.2 = 1 := by
 refine ⟨?_, ?_, rfl⟩
 ·cases lo with
  | none => simp [sliceBounds, HT.sIx]
  | some i =>
   simp only [sliceBounds, HT.sIx, Option.getD_none, show (1 : Int) > 0 by decide, if_true]
   by_cases h : i < 0
   ·simp only [h, if_true] <;> omega
   ·simp only [h, if_false] <;> (clear h; omega)
 ·cases hi with
  | none => simp [sliceBounds, HT.sIx]
  | some i =>
   simp only [sliceBounds, HT.sIx, Option.getD_none, show (1 : Int) > 0 by decide, if_true]
   by_cases h : i < 0
   ·simp only [h, if_true] <;> omega
   ·simp only [h, if_false] <;> (clear h; omega)
theorem yf8 (its : List Value) (lo hi : Option Int) : slicePick its.toArray lo hi none = ((its.drop (HT.sIx its.length 0 lo)).take (HT.sIx its.length its.length hi - HT.sIx its.length 0 lo)).toArray := by
 obtain ⟨h1, h2, h3⟩ := yj6 lo hi its.toArray.size
 unfold slicePick
 rw [h1, h2, h3]
 simp only [sliceRange_one, pick_run, List.size_toArray] <;> rfl
def rSlL (K : PySem.W.Frag) : V -> Option Int -> Option Int -> Hp -> VK -> Prop := fun x lo hi H Q => ∃ a xs, x = .ref a /\ SqL K H a xs /\ ∀ p, H p = none -> Q (.ref p) (upd H p (.lst (cutV xs lo hi)))
theorem zs6 : SlR X (rSlL X.K) := by
 intro pins s σ H x v vl vu lo hi sl Q I rx hs pl pu h
 obtain ⟨a, xs, rfl, hx, q⟩ := h
 cases rx
 obtain ⟨its, r, ht, hz⟩ := I.list hx
 have hlen := r.length
 refine ⟨"list", _, slot_list_getitem.lookup, ht.isList.typeIs, ?_⟩
 refine wpAny_getItem_list_slice ht.isList hs pl pu .none (by simp) ?_ (by rw [List.size_toArray] <;> omega)
 rw [yf8, ← hlen]
 refine ⟨.ref s.heap.objs.size, _, I.laid (t' := s.toks) (o := .lst (cutV xs lo hi)) (fun b ob q => Heap.get?_push_of_some _ q) (Nat.le_refl _) ?_, rfl, q _ (I.hok.fresh (Nat.le_refl _))⟩
 exact ⟨Nat.le_trans (zz0 xs lo hi) hz, _, 0, (r.drop (HT.sIx xs.length 0 lo)).take (HT.sIx xs.length xs.length hi - HT.sIx xs.length 0 lo), Heap.get?_push_size _ rfl⟩
def zw1 : V -> Bool
 | .non => true
 | .bl _ => true
 | .int _ => true
 | .str _ => true
 | _ => false
def eqV : V -> V -> Bool
 | .non, .non => true
 | .bl a, .bl b => a == b
 | .bl a, .int b => (if a then 1 else 0) == b
 | .int a, .bl b => a == (if b then 1 else 0)
 | .int a, .int b => a == b
 | .str a, .str b => a == b
 | _, _ => false
theorem eqAt_V {A : Around} {s : Shared} {y x : V} {u v : Value} (ry : RelV y u) (rx : RelV x v) (fy : zw1 y = true) (fx : zw1 x = true) : SeqAt.EqAt A s u v (eqV y x) := by
 cases y with
 | non =>
  cases ry
  cases x with
  | non => cases rx; exact SeqAt.EqAt.same _
  | bl b => cases rx; exact SeqAt.EqAt.none_bool b
  | int b => obtain ⟨t, rfl⟩ := rx; exact SeqAt.EqAt.none_int b t
  | str b => obtain ⟨t, rfl⟩ := rx; exact SeqAt.EqAt.none_str b t
  | _ => exact absurd (show false = true from fx) Bool.false_ne_true
 | bl a =>
  cases ry
  cases x with
  | non => cases rx; exact SeqAt.EqAt.bool_none a
  | bl b => cases rx; exact SeqAt.EqAt.bool_bool a b
  | int b => obtain ⟨t, rfl⟩ := rx; exact SeqAt.EqAt.bool_int a b t
  | str b => obtain ⟨t, rfl⟩ := rx; exact SeqAt.EqAt.bool_str a b t
  | _ => exact absurd (show false = true from fx) Bool.false_ne_true
 | int a =>
  obtain ⟨t', rfl⟩ := ry
  cases x with
  | non => cases rx; exact SeqAt.EqAt.int_none a t'
  | bl b => cases rx; exact SeqAt.EqAt.int_bool a t' b
  | int b => obtain ⟨t, rfl⟩ := rx; exact SeqAt.EqAt.int_int a t' b t
  | str b => obtain ⟨t, rfl⟩ := rx; exact SeqAt.EqAt.int_str a t' b t
  | _ => exact absurd (show false = true from fx) Bool.false_ne_true
 | str a =>
  obtain ⟨t', rfl⟩ := ry
  cases x with
  | non => cases rx; exact SeqAt.EqAt.str_none a t'
  | bl b => cases rx; exact SeqAt.EqAt.str_bool a t' b
  | int b => obtain ⟨t, rfl⟩ := rx; exact SeqAt.EqAt.str_int a t' b t
  | str b => obtain ⟨t, rfl⟩ := rx; exact SeqAt.EqAt.str_str a t' b t
  | _ => exact absurd (show false = true from fx) Bool.false_ne_true
 | _ => exact absurd (show false = true from fy) Bool.false_ne_true
def eqU (x : V) (u : Value) : Bool := match u with
 | .none => eqV .non x
 | .bool b => eqV (.bl b) x
 | .int i _ => eqV (.int i) x
 | .str z _ => eqV (.str z) x
 | _ => false
theorem xr8 {x y : V} {u : Value} (r : RelV y u) (f : zw1 y = true) : eqU x u = eqV y x := by
 cases y with
 | non => cases r; rfl
 | bl b => cases r; rfl
 | int i => obtain ⟨t, rfl⟩ := r; rfl
 | str z => obtain ⟨t, rfl⟩ := r; rfl
 | _ => exact absurd (show false = true from f) Bool.false_ne_true
theorem zz6 {x : V} : ∀ {xs : List V} {us : List Value}, Vals xs us -> xs.all zw1 = true -> us.any (eqU x) = xs.any fun y => eqV y x
 | _, _, .nil, _ => rfl
 | y :: xs, u :: us, .cons r t, f => by
  rw [List.all_cons, Bool.and_eq_true] at f
  rw [List.any_cons, List.any_cons, xr8 r f.1, zz6 t f.2]
theorem zq6 {A : Around} {s : Shared} {x : V} {v : Value} (rx : RelV x v) (fx : zw1 x = true) : ∀ {xs : List V} {us : List Value}, Vals xs us -> xs.all zw1 = true -> ∀ u ∈ us, SeqAt.EqAt A s u v (eqU x u)
 | _, _, .nil, _ => fun u hu => by cases hu
 | y :: xs, u :: us, .cons r t, f => fun u' hu => by
  rw [List.all_cons, Bool.and_eq_true] at f
  rcases List.mem_cons.mp hu with rfl | hu
  ·rw [xr8 r f.1]; exact eqAt_V r rx f.1 fx
  ·exact zq6 rx fx t f.2 u' hu
def inV (x : V) (xs : List V) : Bool := xs.any fun y => eqV y x
def rIn (K : PySem.W.Frag) (neg : Bool) : R2 := fun x y H Q => ∃ p xs, y = .ref p /\ (SqL K H p xs ∨ SqT K H p xs) /\ zw1 x = true /\ xs.all zw1 = true /\ Q (.bl (if neg then !inV x xs else inV x xs)) H
theorem zg9 : OpR X (compareOp .In) (rIn X.K false) := by
 intro pins s σ H x y v u Q I rx ry h
 obtain ⟨p, xs, rfl, hq, fx, fs, q⟩ := h
 cases ry
 rcases hq with hq | hq
 ·obtain ⟨its, r, pl, hz⟩ := I.list hq
  refine SeqAt.in_listAt (eqU x) pl.isList (fun w hw => zq6 rx fx r fs w (by simpa using hw)) ⟨.bl _, H, I, rfl, ?_⟩
  rw [show its.toArray.any (eqU x) = its.any (eqU x) by simp, zz6 r fs]
  exact q
 ·obtain ⟨its, r, pl, hz⟩ := I.tuple hq
  refine SeqAt.in_tupleAt (eqU x) pl (fun w hw => zq6 rx fx r fs w (by simpa using hw)) ⟨.bl _, H, I, rfl, ?_⟩
  rw [show its.toArray.any (eqU x) = its.any (eqU x) by simp, zz6 r fs]
  exact q
theorem zp3 : OpR X (compareOp .NotIn) (rIn X.K true) := by
 intro pins s σ H x y v u Q I rx ry h
 obtain ⟨p, xs, rfl, hq, fx, fs, q⟩ := h
 cases ry
 rcases hq with hq | hq
 ·obtain ⟨its, r, pl, hz⟩ := I.list hq
  refine SeqAt.notIn_listAt (eqU x) pl.isList (fun w hw => zq6 rx fx r fs w (by simpa using hw)) ⟨.bl _, H, I, rfl, ?_⟩
  rw [show its.toArray.any (eqU x) = its.any (eqU x) by simp, zz6 r fs]
  exact q
 ·obtain ⟨its, r, pl, hz⟩ := I.tuple hq
  refine SeqAt.notIn_tupleAt (eqU x) pl (fun w hw => zq6 rx fx r fs w (by simpa using hw)) ⟨.bl _, H, I, rfl, ?_⟩
  rw [show its.toArray.any (eqU x) = its.any (eqU x) by simp, zz6 r fs]
  exact q
theorem zf4 : CallR X (.builtin "len") (fun xs H Q => ∃ p ys, xs = [.ref p] /\ (SqL X.K H p ys ∨ SqT X.K H p ys) /\ Q (.int ys.length) H) := by
 intro pins s σ H xs us Q I r h
 obtain ⟨p, ys, rfl, hq, q⟩ := h
 obtain ⟨u, rfl, rx⟩ := zx1 r
 cases rx
 have hn := yb6
 rcases hq with hq | hq
 ·obtain ⟨its, r', pl, hz⟩ := I.list hq
  have hlen := r'.length
  exact Calls.call_len_list pl.isList (by simp only [List.size_toArray] <;> omega) ⟨.int ys.length, H, I.tok _, ⟨s.toks + 1, by rw [List.size_toArray, hlen]⟩, q⟩
 ·obtain ⟨its, r', pl, hz⟩ := I.tuple hq
  have hlen := r'.length
  exact len_tuple pl (by simp only [List.size_toArray] <;> omega) ⟨.int ys.length, H, I.tok _, ⟨s.toks + 1, by rw [List.size_toArray, hlen]⟩, q⟩
theorem yh1 : CallR X (.builtin "len") (fun xs H Q => ∃ z, xs = [.str z] /\ z.length <= sizeLine /\ Q (.int z.length) H) := by
 intro pins s σ H xs us Q I r h
 obtain ⟨z, rfl, hz, q⟩ := h
 obtain ⟨u, rfl, t, rfl⟩ := zx1 r
 have hn := yb6
 exact len_str (by omega) ⟨.int z.length, H, I.tok _, ⟨_, rfl⟩, q⟩
theorem zc8 : CallR X (.type "tuple") (fun xs H Q => ∃ p ys, xs = [.ref p] /\ ((SqL X.K H p ys /\ ∀ l, H l = none -> Q (.ref l) (upd H l (.tup ys))) ∨ (SqT X.K H p ys /\ Q (.ref p) H))) := by
 intro pins s σ H xs us Q I r h
 obtain ⟨p, ys, rfl, h⟩ := h
 obtain ⟨u, rfl, rx⟩ := zx1 r
 cases rx
 rcases h with ⟨hq, q⟩ | ⟨hq, q⟩
 ·obtain ⟨its, r', pl, hz⟩ := I.list hq
  have hlen := r'.length
  refine call_tuple_list pl.isList (fun h' kp => ?_) (by simp only [List.size_toArray] <;> omega)
  have I1 : Inv X pins σ H { s with heap := h' } := I.kept (t' := s.toks) kp
  have I2 : Inv X pins σ (upd H h'.objs.size (.tup ys)) { s with heap := h'.push { cls := .type "tuple", data := .seq its.toArray } } :=
   I1.laid (t' := s.toks) (fun b o e => Heap.get?_push_of_some _ e) (Nat.le_refl _) (show ObjOk X.prog X.w _ _ _ (.tup ys) from ⟨⟨hz, _, Heap.get?_push_size _ rfl, rfl⟩, its, r', IsTup.new _ _⟩)
  exact ⟨.ref h'.objs.size, _, I2, rfl, q _ (I1.hok.fresh (Nat.le_refl _))⟩
 ·obtain ⟨its, r', pl, hz⟩ := I.tuple hq
  exact call_tuple_same pl ⟨.ref p, H, I, rfl, q⟩
def tyV (K : PySem.W.Frag) (T : String) (x : V) (H : Hp) : Prop := match x with
 | .str _ => T = "str"
 | .int _ => T = "int"
 | .ref p => (T = "list" /\ ∃ xs, SqL K H p xs) ∨ (T = "tuple" /\ ∃ o, K.lookup p = some o /\ o.cls = .type "tuple" /\ o.dict = none) ∨
   (T = "dict" /\ ((∃ kvs, H p = some (.dK kvs)) ∨ ∃ kvs, H p = some (.dT kvs))) ∨ (T = "set" /\ ∃ S n, H p = some (.set S n))
 | _ => False
theorem tyV_is {pins : List (Addr × Obj)} {σ : St} {H : Hp} {s : Shared} {T : String} {x : V} {v : Value} (I : Inv X pins σ H s) (r : RelV x v) (ty : tyV X.K T x H) :
  s.TypeIs v T /\ ∀ a, v = .ref a -> ∃ ob, s.heap.get? a = some ob /\ ob.dict = none := by
 cases x with
 | str z =>
  obtain ⟨t, rfl⟩ := r
  cases (show T = "str" from ty)
  exact ⟨typeIs_str s z t, fun _ e => nomatch e⟩
 | int i =>
  obtain ⟨t, rfl⟩ := r
  cases (show T = "int" from ty)
  exact ⟨typeIs_int s i t, fun _ e => nomatch e⟩
 | ref p =>
  cases r
  rcases ty with ⟨rfl, xs, hq⟩ | ⟨rfl, o, hk, hc, hd⟩ | ⟨rfl, hk⟩ | ⟨rfl, S, n, hk⟩
  ·obtain ⟨its, _, pl, _⟩ := I.list hq
   refine ⟨pl.isList.typeIs, fun a e => ?_⟩
   cases e
   obtain ⟨o, n, e, c, hd, _⟩ := pl
   exact ⟨o, e, hd⟩
  ·refine ⟨⟨o, I.kIn p o hk, hc⟩, fun a e => ?_⟩
   cases e
   exact ⟨o, I.kIn _ o hk, hd⟩
  ·have z : ∃ o, s.heap.get? p = some o /\ o.ExactDict := by
    rcases hk with ⟨kvs, hk⟩ | ⟨kvs, hk⟩
    ·obtain ⟨_, _, _, _, o, _, _, e, ex, _⟩ := I.hok p _ hk
     exact ⟨o, e, ex⟩
    ·obtain ⟨_, _, _, _, o, _, _, e, ex, _⟩ := I.hok p _ hk
     exact ⟨o, e, ex⟩
   obtain ⟨o, e, ex⟩ := z
   refine ⟨⟨o, e, ex.1⟩, fun a e2 => ?_⟩
   cases e2
   exact ⟨o, e, ex.2.1⟩
  ·obtain ⟨o, _, _, _, e, ex, _⟩ := I.hok p _ hk
   refine ⟨⟨o, e, ex.1⟩, fun a e2 => ?_⟩
   cases e2
   exact ⟨o, e, ex.2.1⟩
 | _ => exact False.elim ty
def tBM (K : PySem.W.Frag) (T : String) (r : V -> List V -> Hp -> VK -> Prop) (to : TE) (t : TA) : TE := fun σ H Q => to σ H fun x H1 => tyV K T x H1 /\ t σ H1 fun xs H2 => r x xs H2 Q
variable {o e : Expr} {es : List Expr} {to : TE} {t : TA} {name : Str} {apos cpos : Pos} {T id : String} {r : V -> List V -> Hp -> VK -> Prop}
theorem zk6 (pa : PlainAttrs T) (slot : Slot T name id) (hty : typeOf (.builtin id) = pure (.type "method_descriptor")) (hm : MtR X id r) (ho : PE X o to) (ha : PA X (e :: es) t)
  (hbase : attributeBase o name X.env (eval o X.env) = eval o X.env := by rfl)
  (hfew : ((backTo cpos (starEach (e :: es) X.env)).all (fun x => !x.1) && (backToKw cpos (keywordEach [] X.env)).all (fun x => x.1.isSome)
   && decide ((e :: es).length + ([] : List Keyword).length + (if ([] : List Keyword).isEmpty then 0 else 1) < 30)) = true := by rfl)
  (hline : (apos.endLine == cpos.line) = true := by rfl) (hs : starEach (e :: es) X.env = (false, eval e X.env) :: starEach es X.env := by rfl) (hplain : (backTo cpos (starEach es X.env)).any (·.1) = false := by rfl) :
  PE X (.Call (.Attribute o name apos) (e :: es) [] cpos) (tBM X.K T r to t) := by
 intro pins s σ H Q I h
 refine wpAny_Call_method_late hbase hfew hline rfl (thn (ho pins s σ H _ I h) fun v s1 ⟨x, H1, I1, r1, ty, q1⟩ => ?_)
 obtain ⟨h1, h2⟩ := tyV_is I1 r1 ty
 refine ⟨T, id, pa, slot, hty, h1, h2, ?_⟩
 have hA := ha cpos pins s1 σ H1 _ I1 q1
 rw [hs] at hA ⊢
 refine Calls.callWith_builtin (by show (false || (backTo cpos (starEach es X.env)).any (·.1)) = false; rw [hplain] <;> rfl) (Calls.evalArgs_plain ?_)
 exact thn hA fun us s2 ⟨vs, H2, I2, r2, q2⟩ => hm pins s2 σ H2 x vs v us Q I2 r1 r2 q2
end
end L2
namespace L2
open PySem PySem.Spec PyProof.Rows
def MtM (X : Cx) (id : String) (r : V -> List V -> Hp -> VK -> Prop) : Prop :=
 ∀ (pins : List (Addr × Obj)) (s : Shared) (σ : St) (H : Hp) (x : V) (xs : List V) (v : Value) (us : List Value) (Q : VK), Inv X pins σ H s -> RelV x v -> Vals xs us -> r x xs H Q ->
  wpAny (model X.prog X.w) X.A (call (.builtin id) (v :: us)) (EP X pins σ Q) X.xe s
theorem Vals.one : ∀ {x : V} {us : List Value}, Vals [x] us -> ∃ u, us = [u] /\ RelV x u
 | _, _, .cons r .nil => ⟨_, rfl, r⟩
theorem Vals.eraseIdx : ∀ {xs : List V} {us : List Value} (i : Nat), Vals xs us -> Vals (xs.eraseIdx i) (us.eraseIdx i)
 | _, _, _, .nil => .nil
 | _, _, 0, .cons _ t => t
 | _, _, i + 1, .cons r t => .cons r (Vals.eraseIdx i t)
theorem Vals.reverse {xs : List V} {us : List Value} (h : Vals xs us) : Vals xs.reverse us.reverse := by
 induction h with
 | nil => exact .nil
 | cons r t ih => rw [List.reverse_cons, List.reverse_cons]; exact Vals.append ih (.cons r .nil)
theorem Vals.rep {xs : List V} {us : List Value} (h : Vals xs us) : ∀ k : Nat, Vals (List.replicate k xs).flatten (List.replicate k us).flatten
 | 0 => .nil
 | k + 1 => by
  rw [List.replicate_succ, List.replicate_succ, List.flatten_cons, List.flatten_cons]
  exact Vals.append h (Vals.rep h k)
theorem yj1 {α : Type} : ∀ (l : List α) (i : Nat), (l.eraseIdx i).length <= l.length
 | [], _ => Nat.le_refl _
 | _ :: _, 0 => Nat.le_succ _
 | _ :: r, i + 1 => Nat.succ_le_succ (yj1 r i)
theorem yk9 (its : List Value) : ∀ (k : Nat) (acc : List Value),
  List.foldl (fun x1 x2 => x1 ++ x2) acc.toArray (List.replicate k its.toArray) = (acc ++ (List.replicate k its).flatten).toArray
 | 0, acc => by simp
 | k + 1, acc => by
  have e : acc.toArray ++ its.toArray = (acc ++ its).toArray := by simp
  have e2 : (acc ++ its) ++ (List.replicate k its).flatten = acc ++ (List.replicate (k + 1) its).flatten := by
   rw [List.replicate_succ, List.flatten_cons, List.append_assoc]
  rw [← e2, ← yk9 its k (acc ++ its), ← e, List.replicate_succ, List.foldl_cons]
section
variable {X : Cx} {pins : List (Addr × Obj)} {σ : St} {H : Hp} {s : Shared} {l b : Addr} {xs ys zs : List V}
theorem Inv.lset {its its' : List Value} {n : Nat} {f : Array Value -> Array Value} {t' : Nat} (I : Inv X pins σ H s) (hH : H l = some (.lst xs))
  (e : s.heap.get? l = some { cls := .type "list", data := .seq its.toArray n }) (hf : f its.toArray = its'.toArray) (hv : Vals ys its') (hz : ys.length <= sizeLine) :
  Inv X pins σ (upd H l (.lst ys)) { s with heap := s.heap.update l (Obj.mapSeq f), toks := t' } := by
 have q := PySem.IsL.update e f
 rw [hf] at q
 refine I.write (x := l) (e := l) (by rw [hH]; exact trivial) (.inl rfl) (fun b' u hb hu => (Heap.get?_update_other s.heap (Obj.mapSeq f) (Ne.symm hb)).trans hu) ⟨_, q⟩ ?_
 exact ⟨hz, its', _, hv, q⟩
theorem Inv.lnew {its : List Value} {t' : Nat} (I : Inv X pins σ H s) (hv : Vals ys its) (hz : ys.length <= sizeLine) :
  Inv X pins σ (upd H s.heap.objs.size (.lst ys)) { s with heap := s.heap.push { cls := .type "list", data := .seq its.toArray }, toks := t' } :=
 I.laid (fun _ _ q => Heap.get?_push_of_some _ q) (Nat.le_refl _) ⟨hz, its, 0, hv, Heap.get?_push_size _ rfl⟩
theorem Inv.fresh (I : Inv X pins σ H s) : H s.heap.objs.size = none := I.hok.fresh (Nat.le_refl _)
theorem Inv.lstM (I : Inv X pins σ H s) (hH : H l = some (.lst xs)) : xs.length <= sizeLine /\ ∃ (its : List Value) (n : Nat), Vals xs its /\ xs.length = its.length /\ s.heap.get? l = some { cls := .type "list", data := .seq its.toArray n } := by
 obtain ⟨z, its, n, r, e⟩ := I.hok l _ hH
 exact ⟨z, its, n, r, r.length, e⟩
theorem ys8 {n : Nat} (h : n <= sizeLine) : Builtin.List.listTooLong n = false := by
 unfold Builtin.List.listTooLong
 exact decide_eq_false (by omega)
end
section
variable {X : Cx}
def zq1 : V -> List V -> Hp -> VK -> Prop := fun x vs H Q => ∃ l xs y, x = .ref l /\ vs = [y] /\ H l = some (.lst xs) /\ xs.length < sizeLine /\ Q .non (upd H l (.lst (xs ++ [y])))
theorem zf0 : MtM X "list.append" zq1 := by
 intro pins s σ H x vs v us Q I rx rv h
 obtain ⟨l, xs, y, rfl, rfl, hH, hz, q⟩ := h
 cases rx
 obtain ⟨u, rfl, ru⟩ := rv.one
 obtain ⟨z, its, n, r, hl, e⟩ := I.lstM hH
 refine call_meets F.slot_list_append ⟨_, e, rfl⟩ F.entry_list_append (F.args_list_append_2 _ _) (PySem.list_append l its.toArray n u (by rw [List.size_toArray]; (clear z; omega))) ⟨e, ?_⟩
 refine ⟨.non, _, I.lset (its' := its ++ [u]) hH e (by simp) (r.append (.cons ru .nil)) ?_, rfl, q⟩
 rw [List.length_append, List.length_singleton]
 (clear hl z; omega)
def xz9 : V -> List V -> Hp -> VK -> Prop := fun x vs H Q => ∃ l b xs zs, x = .ref l /\ vs = [.ref b] /\ H l = some (.lst xs) /\ H b = some (.lst zs) /\ xs.length + zs.length <= sizeLine /\ Q .non (upd H l (.lst (xs ++ zs)))
theorem zx3 : MtM X "list.extend" xz9 := by
 intro pins s σ H x vs v us Q I rx rv h
 obtain ⟨l, b, xs, zs, rfl, rfl, hH, hB, hz, q⟩ := h
 cases rx
 obtain ⟨u, rfl, ru⟩ := rv.one
 cases ru
 obtain ⟨z, its, n, r, hl, e⟩ := I.lstM hH
 obtain ⟨z2, its2, n2, r2, hl2, e2⟩ := I.lstM hB
 have hsz : its.toArray.size + its2.toArray.size <= sizeLine := by rw [List.size_toArray, List.size_toArray]; (clear z2 z; omega)
 have hlong : ¬ (!its.toArray.isEmpty && Builtin.List.listTooLong (its.toArray.size + its2.toArray.size)) = true := by
  rw [ys8 hsz, Bool.and_false]
  exact Bool.false_ne_true
 refine call_meets F.slot_list_extend ⟨_, e, rfl⟩ F.entry_list_extend (F.args_list_extend_2 _ _)
  (AutoSeq1.list_extend_list_list_0 l its.toArray n b its2.toArray n2 hlong (by rw [List.size_toArray]; (clear hlong hsz hl2 z2 z; omega)) (by (clear hlong hl2 z2 hl z hz; omega))) ⟨e, e2, ?_⟩
 refine ⟨.non, _, I.lset (its' := its ++ its2) hH e (by simp) (r.append r2) ?_, rfl, q⟩
 rw [List.length_append]
 (clear hlong hsz hl2 z2 hl z; omega)
def xs4 : V -> List V -> Hp -> VK -> Prop := fun x vs H Q => ∃ l xs i k y, x = .ref l /\ vs = [.int i] /\ H l = some (.lst xs) /\ -(2 ^ 63) <= i /\ i < 2 ^ 63 /\ seqIndex? i xs.length = some k /\ xs[k]? = some y /\ Q y (upd H l (.lst (xs.eraseIdx k)))
theorem xm5 : MtM X "list.pop" xs4 := by
 intro pins s σ H x vs v us Q I rx rv h
 obtain ⟨l, xs, i, k, y, rfl, rfl, hH, h1, h2, hk, hy, q⟩ := h
 cases rx
 obtain ⟨u, rfl, ru⟩ := rv.one
 obtain ⟨t, rfl⟩ := ru
 obtain ⟨z, its, n, r, hl, e⟩ := I.lstM hH
 obtain ⟨w, hw, rw'⟩ := r.get hy
 refine call_meets F.slot_list_pop ⟨_, e, rfl⟩ F.entry_list_pop (F.args_list_pop_2 _ _)
  (MeetsSeq.list_pop_at l its.toArray n i t k w (fitsIndex_both h1 h2) (by rw [List.size_toArray, ← hl]; exact hk) (by rw [← Array.getElem?_toList]; exact hw) (by rw [List.size_toArray]; (clear h2 h1; omega))) ⟨e, ?_⟩
 refine ⟨y, _, I.lset (its' := its.eraseIdx k) hH e ?_ (r.eraseIdx k) ?_, rw', q⟩
 ·show its.toArray.eraseIdxIfInBounds k = (its.eraseIdx k).toArray
  rw [List.eraseIdxIfInBounds_toArray]
 ·have := yj1 xs k
  (clear hl h2 h1; omega)
def rCat : R2 := fun x y H Q => ∃ l b xs zs, x = .ref l /\ y = .ref b /\ H l = some (.lst xs) /\ H b = some (.lst zs) /\ xs.length + zs.length <= sizeLine /\ ∀ p, H p = none -> Q (.ref p) (upd H p (.lst (xs ++ zs)))
theorem yc3 : OpR X (binaryOp .Add) rCat := by
 intro pins s σ H x y v u Q I rx ry h
 obtain ⟨l, b, xs, zs, rfl, rfl, hH, hB, hz, q⟩ := h
 cases rx
 cases ry
 obtain ⟨z, its, n, r, hl, e⟩ := I.lstM hH
 obtain ⟨z2, its2, n2, r2, hl2, e2⟩ := I.lstM hB
 refine PySem.P.add_list e e2 ?_ (by rw [List.size_toArray, List.size_toArray]; (clear z2 z; omega))
 have ea : its.toArray ++ its2.toArray = (its ++ its2).toArray := by simp
 rw [ea]
 exact ⟨.ref _, _, I.lnew (t' := s.toks) (r.append r2) (by rw [List.length_append]; (clear hl2 z2 hl z; omega)), rfl, q _ I.fresh⟩
def rRep : R2 := fun x y H Q => ∃ l k xs, x = .ref l /\ y = .int k /\ H l = some (.lst xs) /\ -(2 ^ 63) <= k /\ k < 2 ^ 63 /\ xs.length * k.toNat <= sizeLine /\
 ∀ p, H p = none -> Q (.ref p) (upd H p (.lst (List.replicate k.toNat xs).flatten))
theorem xz8 {α : Type} (xs : List α) (k : Nat) : (List.replicate k xs).flatten.length = k * xs.length := by
 induction k with
 | zero => simp
 | succ k ih => rw [List.replicate_succ, List.flatten_cons, List.length_append, ih, Nat.succ_mul, Nat.add_comm]
theorem op_rep : OpR X (binaryOp .Mult) rRep := by
 intro pins s σ H x y v u Q I rx ry h
 obtain ⟨l, k, xs, rfl, rfl, hH, h1, h2, hz, q⟩ := h
 cases rx
 obtain ⟨t, rfl⟩ := ry
 obtain ⟨z, its, n, r, hl, e⟩ := I.lstM hH
 have hlen : its.toArray.size * k.toNat <= sizeLine := by rw [List.size_toArray, ← hl]; exact hz
 have hcap : ¬ its.toArray.size * k.toNat > (2 ^ 63 - 1) / 8 := by
  have : (sizeLine : Nat) <= (2 ^ 63 - 1) / 8 := by decide
  (clear hl z hz h2 h1; omega)
 have hfit : ¬ (!Builtin.List.listFitsIndex k) = true := by
  rw [fitsIndex_both h1 h2]
  exact Bool.false_ne_true
 have hlong : ¬ Builtin.List.listTooLong (its.toArray.size * k.toNat) = true := by
  rw [ys8 hlen]
  exact Bool.false_ne_true
 have hnew : List.foldl (fun x1 x2 => x1 ++ x2) #[] (List.replicate (if its.toArray.isEmpty = true then 0 else k.toNat) its.toArray) = (List.replicate k.toNat its).flatten.toArray := by
  have f0 : ∀ m : Nat, List.foldl (fun x1 x2 => x1 ++ x2) #[] (List.replicate m its.toArray) = (List.replicate m its).flatten.toArray := fun m => by
   have := yk9 its m []
   rw [List.nil_append] at this
   exact this
  rw [f0]
  cases its with
  | nil => simp
  | cons a r' => rw [if_neg (by simp)]
 refine wpAny_binaryOp_repeat_ref (T := "list") (U := "int") (by decide) ⟨_, e, rfl⟩ (fun s' => typeIs_int s' k t) noFill_list_mul F.fills_int_mul F.slot_int_rmul repeat_list F.slot_int_index.lookup
  (call_meets F.slot_int_rmul (typeIs_int s k t) F.entry_int_rmul (F.args_int_rmul_2 _ _) (int___rmul___int_list k t l its.toArray n)
   ⟨e, rfl, ⟨_, e, rfl⟩, call_meets F.slot_list_mul ⟨_, e, rfl⟩ F.entry_list_mul (F.args_list_mul_2 _ _) (AutoListH.list___mul___list_int_3 l its.toArray n k t hfit hcap hlong) ⟨e, ?_⟩⟩)
 rw [hnew]
 exact ⟨.ref _, _, I.lnew (t' := s.toks) (r.rep k.toNat) (by rw [xz8, Nat.mul_comm]; exact hz), rfl, q _ I.fresh⟩
end
section
variable {prog : Program} {w : World} {A : Around} {E : Value -> Shared -> Prop} {s : Shared}
end
section
variable {X : Cx}
end
end L2
namespace L2
open PySem PySem.Spec PyProof.Rows
section
variable {κ : Type} [DecidableEq κ]
def valV (kvs : List (κ × V)) (k : κ) : Option V := (kvs.find? fun kv => decide (kv.1 = k)).map (·.2)
def putK (kvs : List (κ × V)) (k : κ) (v : V) : List (κ × V) :=
 if (kvs.any fun kv => decide (kv.1 = k)) = true then kvs.map (fun kv => if kv.1 = k then (kv.1, v) else kv) else kvs ++ [(k, v)]
theorem zh7 {p : κ × V} {r : List (κ × V)} {k : κ} (e : p.1 = k) : valV (p :: r) k = some p.2 := by simp [valV, List.find?_cons, e]
theorem zh6 {p : κ × V} {r : List (κ × V)} {k : κ} (e : ¬ p.1 = k) : valV (p :: r) k = valV r k := by simp [valV, List.find?_cons, e]
theorem zk7 (k : κ) : ∀ kvs : List (κ × V), (kvs.any fun kv => decide (kv.1 = k)) = (valV kvs k).isSome
 | [] => rfl
 | p :: r => by
  rw [List.any_cons]
  by_cases e : p.1 = k
  ·simp only [zh7 e, decide_eq_true e, Bool.true_or, Option.isSome_some]
  ·rw [zh6 e, decide_eq_false e, Bool.false_or]; exact zk7 k r
theorem yr7 (k j : κ) (y : V) : ∀ kvs : List (κ × V), valV (kvs.map fun kv => if kv.1 = k then (kv.1, y) else kv) j = (valV kvs j).map fun x => if j = k then y else x
 | [] => rfl
 | p :: r => by
  have ih := yr7 k j y r
  rw [List.map_cons]
  by_cases h : p.1 = k
  ·rw [if_pos h]
   by_cases e : p.1 = j
   ·rw [zh7 (p := (p.1, y)) e, zh7 e, Option.map_some, if_pos (e.symm.trans h)]
   ·rw [zh6 (p := (p.1, y)) e, zh6 e, ih]
  ·rw [if_neg h]
   by_cases e : p.1 = j
   ·rw [zh7 (p := p) e, zh7 e, Option.map_some, if_neg (fun z => h (e.trans z))]
   ·rw [zh6 (p := p) e, zh6 e, ih]
theorem yj3 (k j : κ) (y : V) : ∀ kvs : List (κ × V), valV kvs k = none -> valV (kvs ++ [(k, y)]) j = if j = k then some y else valV kvs j
 | [], _ => by
  by_cases e : k = j
  ·rw [if_pos e.symm]; exact zh7 (p := (k, y)) e
  ·rw [if_neg (fun z => e z.symm)]; exact zh6 (p := (k, y)) e
 | p :: r, hn => by
  rw [List.cons_append]
  have hk : ¬ p.1 = k := fun z => by rw [zh7 z] at hn; cases hn
  rw [zh6 hk] at hn
  have ih := yj3 k j y r hn
  by_cases e : p.1 = j
  ·rw [zh7 e, zh7 e, if_neg (fun z => hk (e.trans z))]
  ·rw [zh6 e, zh6 e, ih]
theorem zp6 (kvs : List (κ × V)) (k j : κ) (y : V) : valV (putK kvs k y) j = if j = k then some y else valV kvs j := by
 unfold putK
 by_cases a : (kvs.any fun kv => decide (kv.1 = k)) = true
 ·rw [if_pos a, yr7]
  rw [zk7] at a
  by_cases e : j = k
  ·obtain ⟨x, hx⟩ := Option.isSome_iff_exists.mp a
   rw [if_pos e, e, hx, Option.map_some, if_pos rfl]
  ·rw [if_neg e]
   cases valV kvs j with
   | none => rfl
   | some x => rw [Option.map_some, if_neg e]
 ·rw [if_neg a]
  refine yj3 k j y kvs ?_
  rw [zk7] at a
  cases q : valV kvs k with
  | none => rfl
  | some x => rw [q] at a; exact (a rfl).elim
theorem zg8 (kvs : List (κ × V)) (k : κ) (v : V) : (putK kvs k v).length <= kvs.length + 1 := by
 unfold putK
 split
 ·rw [lqm]; omega
 ·rw [List.length_append, List.length_cons, List.length_nil]; (rename_i q1_; clear q1_; omega)
theorem zv4 {kvs : List (κ × V)} {k : κ} (v : V) (h : valV kvs k = none) : putK kvs k v = kvs ++ [(k, v)] := by
 unfold putK
 rw [zk7, h]
 exact if_neg (by decide)
theorem RelO.isSome_eq {o : Option V} {u : Option Value} (r : RelO o u) : o.isSome = u.isSome := by
 cases o with
 | none => cases u with
  | none => rfl
  | some _ => exact (show False from r).elim
 | some _ => cases u with
  | none => exact (show False from r).elim
  | some _ => rfl
theorem RelO.getD {o : Option V} {u : Option Value} {d : V} {d' : Value} (r : RelO o u) (rd : RelV d d') : RelV (o.getD d) (u.getD d') := by
 cases o with
 | none => cases u with
  | none => exact rd
  | some _ => exact (show False from r).elim
 | some _ => cases u with
  | none => exact (show False from r).elim
  | some _ => exact r
theorem KV.val {kvs : List (κ × V)} {vs : List (κ × Value)} (r : KV kvs vs) (k : κ) : RelO (valV kvs k) (valueAt vs k) := by
 unfold KV at r
 induction r with
 | nil => exact True.intro
 | @cons p q ps qs h t ih =>
  obtain ⟨h1, h2⟩ := h
  by_cases e : p.1 = k
  ·have e' : q.1 = k := h1.symm.trans e
   have b : valueAt (q :: qs) k = some q.2 := by simp [valueAt, List.find?_cons, e']
   rw [zh7 e, b]; exact h2
  ·have e' : ¬ q.1 = k := fun z => e (h1.trans z)
   have b : valueAt (q :: qs) k = valueAt qs k := by simp [valueAt, List.find?_cons, e']
   rw [zh6 e, b]; exact ih
theorem KV.any {kvs : List (κ × V)} {vs : List (κ × Value)} (r : KV kvs vs) (k : κ) : (kvs.any fun kv => decide (kv.1 = k)) = vs.any fun kv => decide (kv.1 = k) := by
 unfold KV at r
 induction r with
 | nil => rfl
 | cons h t ih => rw [List.any_cons, List.any_cons, ih, h.1]
theorem KV.repl {kvs : List (κ × V)} {vs : List (κ × Value)} (r : KV kvs vs) (k : κ) {y : V} {u : Value} (ry : RelV y u) :
  KV (kvs.map fun kv => if kv.1 = k then (kv.1, y) else kv) (vs.map fun kv => if kv.1 = k then (kv.1, u) else kv) := by
 unfold KV at r ⊢
 induction r with
 | nil => exact .nil
 | @cons p q ps qs h t ih =>
  rw [List.map_cons, List.map_cons]
  refine .cons ?_ ih
  obtain ⟨h1, h2⟩ := h
  by_cases e : p.1 = k
  ·rw [if_pos e, if_pos (h1.symm.trans e)]; exact ⟨h1, ry⟩
  ·rw [if_neg e, if_neg (fun z => e (h1.trans z))]; exact ⟨h1, h2⟩
theorem KV.put {kvs : List (κ × V)} {vs : List (κ × Value)} (r : KV kvs vs) (k : κ) {y : V} {u : Value} (ry : RelV y u) : KV (putK kvs k y) (stored vs k u) := by
 unfold putK stored
 rw [r.any k]
 by_cases e : (vs.any fun kv => decide (kv.1 = k)) = true
 ·rw [if_pos e, if_pos e]; exact r.repl k ry
 ·rw [if_neg e, if_neg e]; exact Paired.snoc r ⟨rfl, ry⟩
theorem KV.length {kvs : List (κ × V)} {vs : List (κ × Value)} (r : KV kvs vs) : kvs.length = vs.length := Paired.length r
end
theorem yf6 {P : Program} {w : World} {k : Key} {u : Value} (r : RelV (kV k) u) : (zd0 P w).is k u = true := by
 cases k with
 | inl i => obtain ⟨t, e⟩ := (show ∃ t, u = Value.int i t from r); subst e; exact yn6 P w i t
 | inr x => obtain ⟨t, e⟩ := (show ∃ t, u = Value.str x t from r); subst e; exact ym4 P w x t
theorem yk1 {P : Program} {w : World} : ∀ {ks : List Key} {us : List Value}, Vals (ks.map kV) us -> ItemsAre (zd0 P w) ks us
 | [], _, r => by rw [List.map_nil] at r; cases r; exact .nil
 | k :: ks, _, r => by
  rw [List.map_cons] at r
  cases r with
  | cons h t => exact .cons (yf6 h) (yk1 t)
abbrev KT (H : Hp) : List (List Key × V) -> List (List Key × Addr × Value) -> Prop := Paired fun p q => p.1 = q.1 /\ H q.2.1 = some (.tup (p.1.map kV)) /\ RelV p.2 q.2.2
theorem KT.val {H : Hp} {kvs : List (List Key × V)} {xs : List (List Key × Addr × Value)} (r : KT H kvs xs) (k : List Key) : RelO (valV kvs k) ((atKey xs k).map (·.2)) := by
 induction r with
 | nil => exact True.intro
 | @cons p q ps qs h t ih =>
  obtain ⟨h1, _, h2⟩ := h
  by_cases e : p.1 = k
  ·have e' : q.1 = k := h1.symm.trans e
   have b : atKey (q :: qs) k = some q.2 := by simp [atKey, List.find?_cons, e']
   rw [zh7 e, b]; exact h2
  ·have e' : ¬ q.1 = k := fun z => e (h1.trans z)
   have b : atKey (q :: qs) k = atKey qs k := by simp [atKey, List.find?_cons, e']
   rw [zh6 e, b]; exact ih
theorem KT.repl {H : Hp} {kvs : List (List Key × V)} {xs : List (List Key × Addr × Value)} (r : KT H kvs xs) (k : List Key) {y : V} {u : Value} (ry : RelV y u) :
  KT H (kvs.map fun kv => if kv.1 = k then (kv.1, y) else kv) (xs.map (putAt k u)) := by
 induction r with
 | nil => exact .nil
 | @cons p q ps qs h t ih =>
  rw [List.map_cons, List.map_cons]
  refine .cons ?_ ih
  obtain ⟨h1, h2, h3⟩ := h
  unfold putAt
  by_cases e : p.1 = k
  ·rw [if_pos e, if_pos (h1.symm.trans e)]; exact ⟨h1, h2, ry⟩
  ·rw [if_neg e, if_neg (fun z => e (h1.trans z))]; exact ⟨h1, h2, h3⟩
theorem KT.put {H : Hp} {kvs : List (List Key × V)} {xs : List (List Key × Addr × Value)} (r : KT H kvs xs) (k : List Key) {b : Addr} {y : V} {u : Value} (hb : H b = some (.tup (k.map kV))) (ry : RelV y u) :
  KT H (putK kvs k y) (storedH xs k b u) := by
 have e : (kvs.any fun kv => decide (kv.1 = k)) = (atKey xs k).isSome := by
  rw [zk7, (r.val k).isSome_eq, Option.isSome_map]
 unfold putK storedH
 rw [e]
 by_cases q : (atKey xs k).isSome = true
 ·rw [if_pos q, if_pos q]; exact r.repl k ry
 ·rw [if_neg q, if_neg q]; exact Paired.snoc r ⟨rfl, hb, ry⟩
theorem KT.keeps {H H' : Hp} {kvs : List (List Key × V)} {xs : List (List Key × Addr × Value)} (r : KT H kvs xs) (ht : ∀ b ys, H b = some (.tup ys) -> H' b = some (.tup ys)) : KT H' kvs xs :=
 Paired.mapP r fun _ _ z => ⟨z.1, ht _ _ z.2.1, z.2.2⟩
section
variable {P : Program} {w : World} {H : Hp} {h : Heap} {a : Addr}
theorem rd_of {u : HO} (ok : HOk P w H h) (e : Rd H a u) : ObjOk P w H h a u := e.ok ok
theorem yf5 {kvs : List (Key × V)} (ok : HOk P w H h) (e : Rd H a (.dK kvs)) : kvs.length <= sizeLine /\ (a == sysModules) = false /\ ∃ vs, KV kvs vs /\ h.DictOf (zd0 P w) a vs :=
 show ObjOk P w H h a (.dK kvs) from rd_of ok e
theorem yx2 {kvs : List (Key × V)} (ok : HOk P w H h) (e : H a = some (.dK kvs)) : kvs.length <= sizeLine /\ (a == sysModules) = false /\ ∃ vs, KV kvs vs /\ h.DictOf (zd0 P w) a vs := yf5 ok (.inl e)
theorem yk4 {ks : List Key} (ok : HOk P w H h) (e : H a = some (.tup (ks.map kV))) : (tupleKind (zd0 P w)).is h ks a := by
 obtain ⟨_, its, r, o, h1, h2, n, h3⟩ := (show ObjOk P w H h a (.tup (ks.map kV)) from ok a _ e)
 exact ⟨o, its.toArray, n, h1, h2, h3, by simpa using yk1 r⟩
theorem yw2 {kvs : List (List Key × V)} (ok : HOk P w H h) (e : Rd H a (.dT kvs)) : kvs.length <= sizeLine /\ (a == sysModules) = false /\
  ∃ xs, KT H kvs xs /\ h.DictOfH (tupleKind (zd0 P w)) a xs := by
 obtain ⟨z, y, xs, r, o, es, ep, h1, h2, h3, h4, h5⟩ := (show ObjOk P w H h a (.dT kvs) from rd_of ok e)
 refine ⟨z, y, xs, r, o, es, ep, h1, h2, h3, h4, fun x hx => ?_, h5⟩
 have all : ∀ {l : List (List Key × V)} {m : List (List Key × Addr × Value)}, KT H l m -> ∀ x ∈ m, (tupleKind (zd0 P w)).is h x.1 x.2.1 := by
  intro l m q
  induction q with
  | nil => intro x hx; exact nomatch hx
  | @cons p q ps qs hq t ih =>
   intro x hx
   rcases List.mem_cons.mp hx with e | hx
   ·subst e
    exact yk4 ok (by rw [← hq.1]; exact hq.2.1)
   ·exact ih x hx
 exact all r x hx
theorem dt_of {kvs : List (List Key × V)} (ok : HOk P w H h) (e : H a = some (.dT kvs)) : kvs.length <= sizeLine /\ (a == sysModules) = false /\
  ∃ xs, KT H kvs xs /\ h.DictOfH (tupleKind (zd0 P w)) a xs := yw2 ok (.inl e)
end
def DGet (H : Hp) (a : Addr) (y : V) (r : Option V) : Prop :=
 (∃ kvs k, Rd H a (.dK kvs) /\ y = kV k /\ r = valV kvs k) ∨ ∃ kvs k b, Rd H a (.dT kvs) /\ y = .ref b /\ H b = some (.tup (k.map kV)) /\ r = valV kvs k
def DPut (H : Hp) (a : Addr) (y v : V) (H' : Hp) : Prop :=
 (∃ kvs k, H a = some (.dK kvs) /\ y = kV k /\ kvs.length < sizeLine /\ H' = upd H a (.dK (putK kvs k v))) ∨
 ∃ kvs k b, H a = some (.dT kvs) /\ y = .ref b /\ H b = some (.tup (k.map kV)) /\ kvs.length < sizeLine /\ H' = upd H a (.dT (putK kvs k v))
theorem DGet.k {H : Hp} {a : Addr} {kvs : List (Key × V)} {k : Key} (e : H a = some (.dK kvs)) : DGet H a (kV k) (valV kvs k) := .inl ⟨kvs, k, .inl e, rfl, rfl⟩
theorem DPut.k {H : Hp} {a : Addr} {kvs : List (Key × V)} {k : Key} {v : V} (e : H a = some (.dK kvs)) (hl : kvs.length < sizeLine) : DPut H a (kV k) v (upd H a (.dK (putK kvs k v))) := .inl ⟨kvs, k, e, rfl, hl, rfl⟩
theorem DPut.t {H : Hp} {a b : Addr} {kvs : List (List Key × V)} {k : List Key} {v : V} (e : H a = some (.dT kvs)) (eb : H b = some (.tup (k.map kV))) (hl : kvs.length < sizeLine) :
  DPut H a (.ref b) v (upd H a (.dT (putK kvs k v))) := .inr ⟨kvs, k, b, e, rfl, eb, hl, rfl⟩
section
variable {X : Cx} {pins : List (Addr × Obj)} {σ : St} {H : Hp} {s : Shared} {a : Addr} {y v : V} {u r : Value} {o : Option V} {A : Around} {E : Value -> Shared -> Prop}
theorem Inv.big (I : Inv X pins σ H s) : sysModules < s.heap.objs.size := by
 have h : mainGlobals < s.heap.objs.size := (I.mod.glob.keeps I.bk).lt
 exact Nat.lt_trans (by decide) h
theorem xk3 {Q : Value -> Shared -> Prop} (hu : A.units + 1 < cLine) (I : Inv X pins σ H s) (g : DGet H a y (some v)) (ry : RelV y u) (h : ∀ w' s', Inv X pins σ H s' -> RelV v w' -> Q w' s') :
  wpAny (model X.prog X.w) A (getItem (.ref a) u) Q E s := by
 rcases g with ⟨kvs, k, e, ey, l⟩ | ⟨kvs, k, b, e, ey, eb, l⟩
 ·subst ey
  obtain ⟨z, hd, vs, rel, dd⟩ := yf5 I.hok e
  obtain ⟨w', hw, rw'⟩ := RelO.some_of (v := v) (o := valueAt vs k) (by rw [l]; exact rel.val k)
  exact wpAny_getItem_of (yf6 ry) dd.mapOf hw (h w' _ (I.tok _) rw')
 ·subst ey
  cases (show u = Value.ref b from ry)
  obtain ⟨z, hd, xs, rel, dd⟩ := yw2 I.hok e
  obtain ⟨w', hw, rw'⟩ := RelO.some_of (v := v) (o := (atKey xs k).map (·.2)) (by rw [l]; exact rel.val k)
  obtain ⟨p, hp, hp2⟩ := Option.map_eq_some_iff.mp hw
  refine wpAny_getItem_heap (tupleKind_room_in1 hu) (yk4 I.hok eb) dd hp ?_
  rw [hp2]
  exact h w' _ (I.tok _) rw'
theorem zv8 {h' : Heap} {t' : Nat} {ob : HO} (I : Inv X pins σ H s) (mu : Mut (H a)) (hs : Heap.SameBut a s.heap h') (he : ∃ q, h'.get? a = some q) (new : ObjOk X.prog X.w (upd H a ob) h' a ob) :
  Inv X pins σ (upd H a ob) { s with heap := h', toks := t' } :=
 I.write (x := a) (e := a) mu (.inl rfl) (fun b q hb z => (hs.2 b hb).trans z) he new
theorem yq9 {P : Program} {w : World} {H' : Hp} {h' : Heap} {kvs : List (Key × V)} {vs : List (Key × Value)} (z : kvs.length <= sizeLine) (hd : (a == sysModules) = false) (rel : KV kvs vs) (dd : h'.DictOf (zd0 P w) a vs) :
  ObjOk P w H' h' a (.dK kvs) := ⟨z, hd, vs, rel, dd⟩
theorem xb5 {H' : Hp} {Q : Unit -> Shared -> Prop} (hu : A.units + 1 < cLine) (I : Inv X pins σ H s) (g : DPut H a y v H') (ry : RelV y u) (rv : RelV v r) (h : ∀ s', Inv X pins σ H' s' -> Q () s') :
  wpAny (model X.prog X.w) A (setItem (.ref a) u r) Q E s := by
 rcases g with ⟨kvs, k, e, ey, l, eH⟩ | ⟨kvs, k, b, e, ey, eb, l, eH⟩
 ·subst ey eH
  obtain ⟨z, hd, vs, rel, dd⟩ := yx2 I.hok e
  have hz : vs.length <= sizeLine := by rw [← rel.length]; exact z
  have hl : (putK kvs k v).length <= sizeLine := by have := zg8 kvs k v; (clear hz z hu; omega)
  refine wpAny_setItem_pairs (hsz := hz) (yf6 ry) dd fun h' dd' hs => h _ ?_
  have he : ∃ q, h'.get? a = some q := let ⟨q, _, _, hq, _⟩ := dd'; ⟨q, hq⟩
  exact zv8 I (by rw [e]; exact True.intro) hs he (yq9 hl hd (rel.put k rv) dd')
 ·subst ey eH
  cases (show u = Value.ref b from ry)
  obtain ⟨z, hd, xs, rel, dd⟩ := dt_of I.hok e
  have hz : xs.length <= sizeLine := by rw [← Paired.length rel]; exact z
  have hl : (putK kvs k v).length <= sizeLine := by have := zg8 kvs k v; (clear hz z hu; omega)
  refine wpAny_setItem_heap (hsz := hz) (tupleKind_room_in1 hu) (yk4 I.hok eb) dd fun h' dd' hs => h _ ?_
  obtain ⟨q, es, ep, hq, h2, h3, h4, _, h5⟩ := dd'
  refine zv8 I (by rw [e]; exact True.intro) hs ⟨q, hq⟩ ⟨hl, hd, _, (rel.put k eb rv).keeps fun c ys ec => ?_, q, es, ep, hq, h2, h3, h4, h5⟩
  rw [zb5 (ne_of ec e (fun z => nomatch z))]
  exact ec
end
section
variable {X : Cx} {pins : List (Addr × Obj)} {σ : St} {H : Hp} {s : Shared} {a : Addr} {kvs : List (Key × V)} {k : Key} {u : Value} {A : Around} {E : Value -> Shared -> Prop}
end
def NoSl (i : Expr) : Prop := ∀ ov iv, subscripted i false ov iv = operate [ov, iv] (getItem ov iv)
theorem xz5 {prog : Program} {w : World} {A : Around} {E : Value -> Shared -> Prop} {s : Shared} {env : Env} {value slice : Expr} {pos : Pos} {T id : String} {Q : Value -> Shared -> Prop}
  (hl : typeLookup (.type T) "__getitem__" = pure (some (.builtin id))) (hs : NoSl slice)
  (h : wpAny (model prog w) A (eval value env) (fun o s₁ => wpAny (model prog w) A (eval slice env) (fun i s₂ => s₂.TypeIs o T /\ wpAny (model prog w) A (getItem o i) Q E s₂) E s₁) E s) :
  wpAny (model prog w) A (eval (.Subscript value slice pos) env) Q E s := by
 refine Subscript_ (wpAny_mono h (fun o s₁ h₁ => wpAny_mono h₁ (fun i s₂ h₂ => ?_) fun _ _ x => x) fun _ _ x => x)
 obtain ⟨hT, h₂⟩ := h₂
 unfold subscriptTail
 refine wpAny_bind ?_
 rw [getitemInPython_of_ne hT.not_modules]
 refine wpAny_bind (wpAny_specialOf hT hl ?_)
 have fin : wpAny (model prog w) A (subscripted slice false o i) (fun r s₃ => wpAny (model prog w) A (letTemporaryGo value o r >>= fun _ => pure r) Q E s₃) E s₂ := by
  rw [hs o i]
  exact wpAny_operating (wpAny_mono h₂ (fun r s₃ h₃ => wpAny_bind (wpAny_letTemporaryGo (wpAny_pure h₃))) fun _ _ x => x)
 first
  | exact wpAny_pure (wpAny_bind fin)
  | exact wpAny_bind (wpAny_pure (wpAny_bind fin))
  | exact wpAny_bind fin
theorem yp2 {X : Cx} {pins : List (Addr × Obj)} {σ : St} {H : Hp} {s : Shared} {a : Addr} {y : V} {o : Option V} (I : Inv X pins σ H s) (g : DGet H a y o) : s.TypeIs (.ref a) "dict" := by
 rcases g with ⟨kvs, k, e, _, _⟩ | ⟨kvs, k, b, e, _, _, _⟩
 ·obtain ⟨_, _, vs, _, dd⟩ := yf5 I.hok e
  exact dd.typeIs
 ·obtain ⟨_, _, xs, _, dd⟩ := yw2 I.hok e
  exact dd.typeIs
def yt9 (td ty : TE) : TE := fun σ H Q => td σ H fun x H1 => ty σ H1 fun y H2 => ∃ a v, x = .ref a /\ DGet H2 a y (some v) /\ Q v H2
def sDPut (td ty tv : TE) : TS := fun D σ H => tv σ H fun v H1 => td σ H1 fun x H2 => ty σ H2 fun y H3 => ∃ a H4, x = .ref a /\ DPut H3 a y v H4 /\ D.nx σ H4
section
variable {X : Cx} {o i e value : Expr} {pos pos' tpos : Pos} {td ty tv : TE}
theorem zc9 (hu : X.A.units + 1 < cLine) (ho : PE X o td) (hi : PE X i ty) (hs : NoSl i) : PE X (.Subscript o i pos) (yt9 td ty) := by
 intro pins s σ H Q I h
 refine xz5 PySem.F.slot_dict_getitem.lookup hs (thn (ho pins s σ H _ I h) fun u s1 ⟨x, H1, I1, rx, q1⟩ => thn (hi pins s1 σ H1 _ I1 q1) fun iv s2 ⟨y, H2, I2, ry, a, v, ex, g, q2⟩ => ?_)
 subst ex
 obtain rfl : u = Value.ref a := rx
 exact ⟨yp2 I2 g, xk3 hu I2 g ry fun w' s3 I3 rw' => ⟨v, H2, I3, rw', q2⟩⟩
theorem zm9 (hu : X.A.units + 1 < cLine) (ho : PE X o td) (hi : PE X i ty) (hv : PE X value tv) (hs : swapsWith value (some (.Subscript o i pos')) pos.line X.env = pure false) :
  PS X (.Assign [.Subscript o i pos'] value pos) (sDPut td ty tv) := by
 intro pins s σ H D I h
 refine wpAny_Assign_Subscript (thn (hv pins s σ H _ I h) fun r s1 ⟨v, H1, I1, rv, q1⟩ => thn (ho pins s1 σ H1 _ I1 q1) fun u s2 ⟨x, H2, I2, rx, q2⟩ => thn (hi pins s2 σ H2 _ I2 q2) fun iv s3 ⟨y, H3, I3, ry, a, H4, ex, g, q3⟩ => ?_) hs
 subst ex
 obtain rfl : u = Value.ref a := rx
 exact xb5 hu I3 g ry rv fun s4 I4 => ⟨σ, H4, I4, q3⟩
end
theorem yg0 {P : Program} {w : World} {H : Hp} (h : Heap) (hb : sysModules < h.objs.size) : ObjOk P w H (h.push { cls := .type "dict", data := .dict #[] }) h.objs.size (.dK []) :=
 ⟨Nat.zero_le _, beq_eq_false_iff_ne.mpr (Ne.symm (Nat.ne_of_lt hb)), [], .nil, Heap.DictOf.new h⟩
theorem xq2 {P : Program} {w : World} {H : Hp} (h : Heap) (hb : sysModules < h.objs.size) : ObjOk P w H (h.push { cls := .type "dict", data := .dict #[] }) h.objs.size (.dT []) :=
 ⟨Nat.zero_le _, beq_eq_false_iff_ne.mpr (Ne.symm (Nat.ne_of_lt hb)), [], .nil, _, #[], 0, Heap.get?_push_size _ rfl, ⟨rfl, rfl, rfl⟩, rfl, rfl, List.nodup_nil⟩
def xt7 : TE := fun _ H Q => ∀ p, H p = none -> Q (.ref p) (upd H p (.dK []))
def tDNewT : TE := fun _ H Q => ∀ p, H p = none -> Q (.ref p) (upd H p (.dT []))
section
variable {X : Cx} {pos : Pos}
theorem zq9 : PE X (.Dict [] [] pos) xt7 := fun pins s σ H Q I h =>
 wpAny_Dict_empty ⟨.ref s.heap.objs.size, _, I.laid (a := s.heap.objs.size) (o := .dK []) (t' := s.toks) (fun _ _ q => Heap.get?_push_of_some _ q) (Nat.le_refl _) (yg0 s.heap I.big), rfl, h _ (I.hok.fresh (Nat.le_refl _))⟩
theorem xk8 : PE X (.Dict [] [] pos) tDNewT := fun pins s σ H Q I h =>
 wpAny_Dict_empty ⟨.ref s.heap.objs.size, _, I.laid (a := s.heap.objs.size) (o := .dT []) (t' := s.toks) (fun _ _ q => Heap.get?_push_of_some _ q) (Nat.le_refl _) (xq2 s.heap I.big), rfl, h _ (I.hok.fresh (Nat.le_refl _))⟩
end
def yz7 : List (TE × TE) -> St -> Hp -> (List (V × V) -> Hp -> Prop) -> Prop
 | [], _, H, Q => Q [] H
 | (tk, tv) :: r, σ, H, Q => tk σ H fun x H1 => tv σ H1 fun y H2 => yz7 r σ H2 fun ps H3 => Q ((x, y) :: ps) H3
abbrev VV : List (V × V) -> List (Value × Value) -> Prop := Paired fun p q => RelV p.1 q.1 /\ RelV p.2 q.2
def PPs (X : Cx) (pos : Pos) (keys : List (Option Expr)) (values : List Expr) (trs : List (TE × TE)) : Prop :=
 ∀ (pins : List (Addr × Obj)) (s : Shared) (σ : St) (H : Hp) (Q : List (V × V) -> Hp -> Prop), Inv X pins σ H s -> yz7 trs σ H Q ->
  wpAny (model X.prog X.w) X.A (evalPairs (pairTrees keys values X.env pos)) (fun vs s' => ∃ ps H', Inv X pins σ H' s' /\ VV ps vs /\ Q ps H') X.xe s
theorem wb6 {X : Cx} {pos : Pos} : PPs X pos [] [] [] := fun pins s σ H Q I h => pairTrees_nil_walk ⟨[], H, I, .nil, h⟩
theorem xp9 {X : Cx} {pos : Pos} {k v : Expr} {ks : List (Option Expr)} {vs : List Expr} {tk tv : TE} {trs : List (TE × TE)} (hk : PE X k tk) (hv : PE X v tv) (hr : PPs X pos ks vs trs) :
  PPs X pos (some k :: ks) (v :: vs) ((tk, tv) :: trs) := fun pins s σ H Q I h =>
 pairTrees_cons_walk (thn (hk pins s σ H _ I h) fun u s1 ⟨x, H1, I1, rx, q1⟩ => thn (hv pins s1 σ H1 _ I1 q1) fun w2 s2 ⟨y, H2, I2, ry, q2⟩ =>
  thn (hr pins s2 σ H2 _ I2 q2) fun ws s3 ⟨ps, H3, I3, rel, q3⟩ => ⟨(x, y) :: ps, H3, I3, .cons ⟨rx, ry⟩ rel, q3⟩)
def zg3 (kvs more : List (Key × V)) : List (Key × V) := more.foldl (fun acc kv => putK acc kv.1 kv.2) kvs
theorem KV.merge : ∀ {more : List (Key × V)} {rs : List (Key × Value)} {kvs : List (Key × V)} {vs : List (Key × Value)}, KV more rs -> KV kvs vs -> KV (zg3 kvs more) (merged vs rs) := by
 intro more rs kvs vs r
 unfold KV at r
 induction r generalizing kvs vs with
 | nil => intro q; exact q
 | @cons p q ps qs h t ih =>
  intro r0
  have e : KV (putK kvs p.1 p.2) (stored vs q.1 q.2) := by
   have := r0.put p.1 h.2
   rw [← h.1]; exact this
  exact ih e
theorem zj1 : ∀ (more kvs : List (Key × V)), (zg3 kvs more).length <= kvs.length + more.length
 | [], kvs => by show kvs.length <= kvs.length + 0; omega
 | p :: r, kvs => by
  have h1 := zj1 r (putK kvs p.1 p.2)
  have h2 := zg8 kvs p.1 p.2
  show (zg3 (putK kvs p.1 p.2) r).length <= _
  rw [List.length_cons]; omega
theorem yc7 {P : Program} {w : World} : ∀ {kvs : List (Key × V)} {ws : List (Value × Value)}, VV (kvs.map fun kv => (kV kv.1, kv.2)) ws -> ∃ rs, Carries (zd0 P w) ws rs /\ KV kvs rs
 | [], _, r => by rw [List.map_nil] at r; cases r; exact ⟨[], True.intro, .nil⟩
 | p :: kvs, _, r => by
  rw [List.map_cons] at r
  cases r with
  | @cons a b as bs h t =>
   obtain ⟨rs, c, q⟩ := yc7 (P := P) (w := w) t
   obtain ⟨b1, b2⟩ := b
   exact ⟨(p.1, b2) :: rs, ⟨yf6 h.1, rfl, c⟩, .cons ⟨rfl, h.2⟩ q⟩
def tDisp (trs : List (TE × TE)) : TE := fun σ H Q => ∀ p, H p = none -> yz7 trs σ (upd H p (.dK [])) fun ps H2 => H2 p = some (.dK []) /\ ∃ kvs : List (Key × V), ps = kvs.map (fun kv => (kV kv.1, kv.2)) /\ kvs.length <= 15 /\ Q (.ref p) (upd H2 p (.dK (zg3 [] kvs)))
theorem xw3 {X : Cx} {pos : Pos} {keys : List (Option Expr)} {values : List Expr} {trs : List (TE × TE)} (h : PPs X pos keys values trs) (hall : keys.all (·.isSome) = true) (hl : keys.length = values.length) (h0 : keys ≠ [])
  (h15 : keys.length <= 15) : PE X (.Dict keys values pos) (tDisp trs) := by
 intro pins s σ H Q I q
 have hn := I.hok.fresh (Nat.le_refl s.heap.objs.size)
 have I1 := I.laid (a := s.heap.objs.size) (o := .dK []) (h' := s.heap.push { cls := .type "dict", data := .dict #[] }) (t' := s.toks) (fun _ _ q => Heap.get?_push_of_some _ q) (Nat.le_refl _) (yg0 s.heap I.big)
 refine wpAny_Dict_walk (knd := zd0 X.prog X.w) hall hl h0 h15 (thn (h pins _ σ _ _ I1 (q _ hn)) fun ws s2 ⟨ps, H2, I2, rel, e, kvs, ep, lk, q2⟩ => ?_)
 subst ep
 obtain ⟨rs, c, rk⟩ := yc7 (P := X.prog) (w := X.w) rel
 obtain ⟨z, hd, vs0, r0, dd⟩ := yx2 I2.hok e
 cases r0
 refine ⟨rs, c, dd, fun h' dd' hs => ⟨.ref s.heap.objs.size, _, ?_, rfl, q2⟩⟩
 have hz : (zg3 [] kvs).length <= sizeLine := by
  have h1 := zj1 kvs []
  rw [List.length_nil] at h1
  rw [sizeLine_eq]; (rename_i q1_; clear q1_; clear z h15 hl; omega)
 have he : ∃ q, h'.get? s.heap.objs.size = some q := let ⟨q, _, _, hq, _⟩ := dd'; ⟨q, hq⟩
 exact zv8 I2 (by rw [e]; exact True.intro) hs he (yq9 hz hd (rk.merge .nil) dd')
structure M1 (X : Cx) (o : Expr) (m : Str) (apos : Pos) (e : Expr) (cpos : Pos) : Prop where
 base : attributeBase o m X.env (eval o X.env) = eval o X.env
 few : ((backTo cpos (starEach [e] X.env)).all (fun x => !x.1) && (backToKw cpos (keywordEach [] X.env)).all (fun x => x.1.isSome)
  && decide (([e] : List Expr).length + ([] : List Keyword).length + (if ([] : List Keyword).isEmpty then 0 else 1) < 30)) = true
 line : (apos.endLine == cpos.line) = true
 trees : backTo cpos (starEach [e] X.env) = [(false, eval e X.env)]
structure M2 (X : Cx) (o : Expr) (m : Str) (apos : Pos) (e f : Expr) (cpos : Pos) : Prop where
 base : attributeBase o m X.env (eval o X.env) = eval o X.env
 few : ((backTo cpos (starEach [e, f] X.env)).all (fun x => !x.1) && (backToKw cpos (keywordEach [] X.env)).all (fun x => x.1.isSome)
  && decide (([e, f] : List Expr).length + ([] : List Keyword).length + (if ([] : List Keyword).isEmpty then 0 else 1) < 30)) = true
 line : (apos.endLine == cpos.line) = true
 trees : backTo cpos (starEach [e, f] X.env) = [(false, eval e X.env), (false, eval f X.env)]
def IsD (H : Hp) (a : Addr) : Prop := (∃ kvs, Rd H a (.dK kvs)) ∨ ∃ kvs, Rd H a (.dT kvs)
theorem yc5 {X : Cx} {pins : List (Addr × Obj)} {σ : St} {H : Hp} {s : Shared} {a : Addr} (I : Inv X pins σ H s) (d : IsD H a) :
  s.TypeIs (.ref a) "dict" /\ (∀ b, Value.ref a = .ref b -> ∃ ob, s.heap.get? b = some ob /\ ob.dict = none) /\ (a == sysModules) = false := by
 rcases d with ⟨kvs, e⟩ | ⟨kvs, e⟩
 ·obtain ⟨_, hd, vs, _, dd⟩ := yf5 I.hok e
  refine ⟨dd.typeIs, fun b q => ?_, hd⟩
  cases q
  obtain ⟨ob, _, _, h1, h2, _⟩ := dd
  exact ⟨ob, h1, h2.2.1⟩
 ·obtain ⟨_, hd, xs, _, dd⟩ := yw2 I.hok e
  refine ⟨dd.typeIs, fun b q => ?_, hd⟩
  cases q
  obtain ⟨ob, _, _, h1, h2, _⟩ := dd
  exact ⟨ob, h1, h2.2.1⟩
section
variable {X : Cx} {pins : List (Addr × Obj)} {σ : St} {H : Hp} {s : Shared} {a : Addr} {y d : V} {u r : Value} {o : Option V} {A : Around} {E : Value -> Shared -> Prop}
theorem xs8 {Q : Value -> Shared -> Prop} (hu : A.units + 1 < cLine) (I : Inv X pins σ H s) (g : DGet H a y o) (ry : RelV y u) (h : ∀ w' s', Inv X pins σ H s' -> RelV (o.getD .non) w' -> Q w' s') :
  wpAny (model X.prog X.w) A (call (.builtin "dict.get") [.ref a, u]) Q E s := by
 rcases g with ⟨kvs, k, e, ey, l⟩ | ⟨kvs, k, b, e, ey, eb, l⟩
 ·subst ey
  obtain ⟨z, hd, vs, rel, dd⟩ := yf5 I.hok e
  refine call_meetsIn PySem.F.slot_dict_get dd.typeIs PySem.F.entry_dict_get (PySem.F.args_dict_get_2 _ _) (meets_dict_get (zd0 X.prog X.w) a (yf6 ry) hd) ⟨_, dd.mapOf, h _ _ (I.tok _) ?_⟩
  rw [l]
  exact (rel.val k).getD rfl
 ·subst ey
  cases (show u = Value.ref b from ry)
  obtain ⟨z, hd, xs, rel, dd⟩ := yw2 I.hok e
  refine call_meetsIn PySem.F.slot_dict_get dd.typeIs PySem.F.entry_dict_get (PySem.F.args_dict_get_2 _ _) (meetsH_dict_get (tupleKind (zd0 X.prog X.w)) a b hd) ⟨tupleKind_room_in1 hu, k, xs, yk4 I.hok eb, dd, h _ _ (I.tok _) ?_⟩
  rw [l]
  exact (rel.val k).getD rfl
theorem xs7 {Q : Value -> Shared -> Prop} (hu : A.units + 1 < cLine) (I : Inv X pins σ H s) (g : DGet H a y o) (ry : RelV y u) (rd : RelV d r) (h : ∀ w' s', Inv X pins σ H s' -> RelV (o.getD d) w' -> Q w' s') :
  wpAny (model X.prog X.w) A (call (.builtin "dict.get") [.ref a, u, r]) Q E s := by
 rcases g with ⟨kvs, k, e, ey, l⟩ | ⟨kvs, k, b, e, ey, eb, l⟩
 ·subst ey
  obtain ⟨z, hd, vs, rel, dd⟩ := yf5 I.hok e
  refine call_meetsIn PySem.F.slot_dict_get dd.typeIs PySem.F.entry_dict_get (PySem.F.args_dict_get_3 _ _ _) (meets_dict_get_default (zd0 X.prog X.w) a (yf6 ry) hd r) ⟨_, dd.mapOf, h _ _ (I.tok _) ?_⟩
  rw [l]
  exact (rel.val k).getD rd
 ·subst ey
  cases (show u = Value.ref b from ry)
  obtain ⟨z, hd, xs, rel, dd⟩ := yw2 I.hok e
  refine call_meetsIn PySem.F.slot_dict_get dd.typeIs PySem.F.entry_dict_get (PySem.F.args_dict_get_3 _ _ _) (meetsH_dict_get_default (tupleKind (zd0 X.prog X.w)) a b hd r) ⟨tupleKind_room_in1 hu, k, xs, yk4 I.hok eb, dd, h _ _ (I.tok _) ?_⟩
  rw [l]
  exact (rel.val k).getD rd
end
def tDGet1 (td ty : TE) : TE := fun σ H Q => td σ H fun x H1 => ∃ a, x = .ref a /\ IsD H1 a /\ ty σ H1 fun y H2 => ∃ o, DGet H2 a y o /\ Q (o.getD .non) H2
def xr7 (td ty tx : TE) : TE := fun σ H Q => td σ H fun x H1 => ∃ a, x = .ref a /\ IsD H1 a /\ ty σ H1 fun y H2 => tx σ H2 fun z H3 => ∃ o, DGet H3 a y o /\ Q (o.getD z) H3
section
variable {X : Cx} {o e f : Expr} {apos cpos : Pos} {td ty tx : TE}
theorem zq7 (hu : X.A.units + 1 < cLine) (ho : PE X o td) (he : PE X e ty) (m : M1 X o "get" apos e cpos) : PE X (.Call (.Attribute o "get" apos) [e] [] cpos) (tDGet1 td ty) := by
 intro pins s σ H Q I h
 refine wpAny_Call_method m.base m.few m.line PySem.F.plainAttrs_dict PySem.F.slot_dict_get PySem.F.type_dict_get (thn (ho pins s σ H _ I h) fun u s1 ⟨x, H1, I1, rx, a, ex, d, q1⟩ => ?_)
 subst ex
 obtain rfl : u = Value.ref a := rx
 obtain ⟨t1, t2, _⟩ := yc5 I1 d
 refine ⟨t1, t2, ?_⟩
 rw [m.trees]
 refine Calls.callWith_builtin rfl (Calls.evalArgs_plain (Calls.spliced_cons (thn (he pins s1 σ H1 _ I1 q1) fun iv s2 ⟨y, H2, I2, ry, ov, g, q2⟩ => Calls.spliced_nil ?_)))
 exact xs8 hu I2 g ry fun w' s3 I3 rw' => ⟨_, H2, I3, rw', q2⟩
theorem xm0 (hu : X.A.units + 1 < cLine) (ho : PE X o td) (he : PE X e ty) (hf : PE X f tx) (m : M2 X o "get" apos e f cpos) : PE X (.Call (.Attribute o "get" apos) [e, f] [] cpos) (xr7 td ty tx) := by
 intro pins s σ H Q I h
 refine wpAny_Call_method m.base m.few m.line PySem.F.plainAttrs_dict PySem.F.slot_dict_get PySem.F.type_dict_get (thn (ho pins s σ H _ I h) fun u s1 ⟨x, H1, I1, rx, a, ex, d, q1⟩ => ?_)
 subst ex
 obtain rfl : u = Value.ref a := rx
 obtain ⟨t1, t2, _⟩ := yc5 I1 d
 refine ⟨t1, t2, ?_⟩
 rw [m.trees]
 refine Calls.callWith_builtin rfl (Calls.evalArgs_plain (Calls.spliced_cons (thn (he pins s1 σ H1 _ I1 q1) fun iv s2 ⟨y, H2, I2, ry, q2⟩ =>
  Calls.spliced_cons (thn (hf pins s2 σ H2 _ I2 q2) fun fv s3 ⟨z, H3, I3, rz, ov, g, q3⟩ => Calls.spliced_nil ?_))))
 exact xs7 hu I3 g ry rz fun w' s4 I4 rw' => ⟨_, H3, I4, rw', q3⟩
end
section
variable {X : Cx} {pins : List (Addr × Obj)} {σ : St} {H : Hp} {s : Shared} {a : Addr} {kvs : List (Key × V)} {A : Around} {E : Value -> Shared -> Prop}
end
section
variable {X : Cx} {pins : List (Addr × Obj)} {σ : St} {H : Hp} {s : Shared} {a : Addr} {y : V} {u : Value} {A : Around} {E : Value -> Shared -> Prop}
end
end L2
namespace Att
open PySem PySem.W PySem.Calls PyProof.Rows
theorem zv9 {P : Params} {h : Heap} : ∀ (ns : List Int) (vs : List Value), WellAll P h vs (ns.map WData.int) -> IntsAre vs ns := by
 intro ns
 induction ns with
 | nil =>
  intro vs w
  rw [List.map_nil] at w
  cases w
  exact .nil
 | cons n ns ih =>
  intro vs w
  rw [List.map_cons] at w
  cases w with
  | cons a b =>
   cases a
   exact .cons _ _ (ih _ b)
theorem xf9 {l : OpenLaw} {n : Nat} (hn : l.most = some n) {P : Params} {h : Heap} {args : List WData} {vals : List Value}
  (hpre : l.row.toRowW.claim.pre args = true) (hwl : WellAll P h vals args) :
  ∃ a vs ns, vals = [Value.ref a] /\ args = [WData.list (ns.map WData.int)] /\ h.get? a = some { cls := .type "list", data := .seq vs.toArray } /\ IntsAre vs ns /\ ns.length <= n := by
 have hsh : WShape.hasAll [] args [.list .int] = true := (pre_splitW hpre).1
 have hc : l.pre.holds [] { args := args } = true := (pre_splitW hpre).2
 obtain ⟨d, r, rfl, h1, h2⟩ := hasAllW_cons hsh
 obtain rfl := hasAllW_nil h2
 obtain ⟨xs, rfl, h3⟩ := hasW_list h1
 obtain ⟨ns, rfl⟩ := items_int h3
 have hlen : ns.length <= n := by
  unfold OpenLaw.pre at hc
  have h4 : (WTm.not (.lt (.lit (.int (n : Int))) (.len (.arg 0)))).holds [] { args := [.list (ns.map .int)] } = true := by
   have h4 := (holds_andW hc).1
   rw [hn] at h4
   exact h4
  have h5 := condW_of h4 (w_not (w_lt w_lit (w_len_list (w_arg rfl))))
  rw [lqm] at h5
  refine Nat.le_of_not_lt fun q => ?_
  have q' : (n : Int) < ((ns.length : Nat) : Int) := by omega
  first
   | (rw [decide_eq_true q'] at h5; exact absurd h5 (by decide))
   | (simp at h5; omega)
 cases hwl with
 | cons w1 w2 =>
  cases w2
  cases w1 with
  | list ho hall => exact ⟨_, _, ns, rfl, rfl, ho, zv9 ns _ hall, hlen⟩
theorem xb0 (l : OpenLaw) (args : List WData) : l.row.toRowW.claim.post args (.bool true) args = true :=
 postW_of (r := l.row.toRowW) (X := (true == true))
  (show WShape.has [] (.bool true) .bool = true by first | rfl | decide | simp [WShape.has, WShape.arms, WShape.armsAll])
  (show (WTm.eq .res (.lit (.bool true))).value [] { args := args, res := some (.bool true), after := args } = some (.bool (true == true)) from w_eq_bool (w_res rfl) w_lit) rfl
theorem attach_call {l : OpenLaw} {n : Nat} {q : Program} {loose : List Str} {XP : (Str -> Option Value) -> Heap -> Prop} {YP : World -> Heap -> Prop} {d : DefRec}
  (hn : l.most = some n) (hdf : d.params.defaults = [])
  (call : ∀ (w : World) (s₀ s₁ : Shared) (mg mb : Str -> Option Value) (fa : Addr) (o : Obj) (pm cd doc : Value) (a : Addr) (vs : List Value) (ns : List Int),
   Ground q loose [] XP w s₀ mg mb s₁.heap -> YP w s₁.heap ->
   s₁.heap.get? fa = some o -> o.data = .func (docDef d.name d.params d.body d.scope pm cd doc) -> s₁.heap.CodeRec cd d.name -> mg d.name = some (.ref fa) ->
   s₁.heap.get? a = some { cls := .type "list", data := .seq vs.toArray } -> IntsAre vs ns -> ns.length <= n -> s₁.gens = #[] ->
   codeAny (model l.prog w) callerA (.call (.ref fa) ⟨[.ref a], []⟩) (fun r s' => r = .ok (.ret (.bool true)) /\ OldK s₁.heap s'.heap /\ s'.os = s₁.os /\ AllBare s'.gens) s₁) :
  WalkO q loose XP YP l.row.toRowW d [] (fun f vs => PySem.call f vs) := by
 intro w s₀ s₁ mg mb G Y fa o pm cd doc dV kV ho hd hcd hD hmg hg args vals as hpre hlay hrd hwl hlo
 obtain rfl : dV = .none := Dflts.none hD hdf
 obtain rfl : kV = .none := Dflts.noKw hD
 obtain ⟨a, vs, ns, rfl, rfl, hobj, hints, hlen⟩ := xf9 hn hpre hwl
 refine enter_call (codeAny_mono (call w s₀ s₁ mg mb fa o pm cd doc a vs ns G Y ho (fd_plain hd) hcd hmg hobj hints hlen hg) fun r s' hq => ?_)
 obtain ⟨rfl, h2, h3, h4⟩ := hq
 exact ⟨.inl ⟨.bool true, .bool true, [], rfl, fun _ => rfl, .bool true, xb0 l _, fun _ => ⟨List.Pairwise.nil, fun _ hm => (nomatch hm)⟩⟩, h2, h3, h4⟩
section
variable {prog : Program} {w : World} {A : Around} {E : Value -> Shared -> Prop} {s : Shared} {K : Frag}
end
end Att
namespace L2
open PySem PySem.Spec PyProof.Rows
theorem yh3 : ∀ {vs : List Value} {ns : List Int}, IntsAre vs ns -> Vals (ns.map V.int) vs
 | _, _, .nil => .nil
 | _, _, .cons n t h => .cons ⟨t, rfl⟩ (yh3 h)
def Only (H : Hp) : Prop := ∀ b, H b = none ∨ ∃ o xs, H b = some (.frz o (.lst xs))
theorem xm6 {P : Program} {w : World} {K : PySem.W.Frag} {mg mb : Str -> Option Value} {CX : CXT} {k : Nat} {fa a : Addr} {fd : FuncData} {x : Str} {sp : Sp} {s₁ : Shared} {vs : List Value} {ns : List Int}
  (KX : K.In s₁.heap) (hns : s₁.heap.Ns mainGlobals mg) (hb : s₁.heap.Ns builtinsNs mb) (hbb : ∀ x : Str, x ≠ "__name__" -> mb x = bootBuiltins x) (hlim : s₁.heap.NoLimit) (hg : s₁.gens = #[])
  (ha : s₁.heap.get? a = some { cls := .type "list", data := .seq vs.toArray }) (hi : IntsAre vs ns) (hl : ns.length <= sizeLine) (hr : Room k callerA)
  (F : ∀ base : Heap, K.In base -> base.Ns mainGlobals mg -> FnOk P w K mg base CX k fa fd [x] sp) (hbind : ∀ (s : Shared) (u : Value), BindsTo s fd ⟨[u], []⟩ [(x, u)])
  (hsp : ∀ H : Hp, Only H -> SqL K H a (ns.map V.int) -> sp [.ref a] H (fun v _ => v = .bl true) fun _ _ _ => False)
  (hCX : ∀ H e s', CX [] H s₁ (fun _ _ _ => False) e s' -> False) :
  codeAny (model P w) callerA (.call (.ref fa) ⟨[.ref a], []⟩) (fun r s' => r = .ok (.ret (.bool true)) /\ OldK s₁.heap s'.heap /\ s'.os = s₁.os /\ AllBare s'.gens) s₁ := by
 have rv := yh3 hi
 have lenV := hi.length
 have core : ∀ H : Hp, Only H -> SqL K H a (ns.map V.int) -> HOk P w H s₁.heap -> (∀ b, H b ≠ none -> b = a) -> (H a ≠ none -> K.lookup a = none) ->
   codeAny (model P w) callerA (.call (.ref fa) ⟨[.ref a], []⟩) (fun r s' => r = .ok (.ret (.bool true)) /\ OldK s₁.heap s'.heap /\ s'.os = s₁.os /\ AllBare s'.gens) s₁ := by
  intro H hO hS hok hA hK
  have base_of : ∀ {b : Addr} {o : Obj}, s₁.heap.get? b = some o -> H b = none -> (hidT s₁.heap H).get? b = some o := fun e n => xm7 e n
  have noA : ∀ {b : Addr} {o : Obj} {es : Array DictEntry} {ep : Nat}, s₁.heap.get? b = some o -> o.data = .dict es ep -> H b = none := fun {b o es ep} e d => by
   cases q : H b with
   | none => rfl
   | some u =>
    have e' : b = a := hA b (by rw [q]; simp)
    subst e'
    rw [ha] at e; cases e
    have d' : Data.seq vs.toArray _ = Data.dict es ep := d
    cases d'
  have nsK : ∀ {b : Addr} {m : Str -> Option Value}, s₁.heap.Ns b m -> (hidT s₁.heap H).Ns b m := fun {b m} ⟨o, es, ep, e, d, r⟩ => ⟨o, es, ep, base_of e (noA e d), d, r⟩
  have hKb : K.In (hidT s₁.heap H) := fun b o e => base_of (KX b o e) (by
   cases q : H b with
   | none => rfl
   | some u =>
    have e' : b = a := hA b (by rw [q]; simp)
    subst e'
    rw [hK (by rw [q]; simp)] at e; cases e)
  have hM : Mod K mg (hidT s₁.heap H) := ⟨hKb, nsK hns, ⟨mb, nsK hb, hbb⟩, let ⟨mc, h1, h2⟩ := hlim; ⟨mc, nsK h1, h2⟩⟩
  have e0 : Env0 P w K mg (hidT s₁.heap H) callerA [] s₁ H := ⟨rfl, hM, fun b o e => xz4 e, Nat.le_of_eq (xd8 _ _), trivial, fun b hb => absurd (show b ∈ ([] : List Addr) from hb) (by simp), hok, .of_eq hg⟩
  refine codeAny_mono ((F _ hKb (nsK hns)).run callerA [] s₁ H ⟨[.ref a], []⟩ [.ref a] [.ref a] _ _ hr e0 (hbind s₁ (.ref a)) (.cons rfl .nil) (hsp H hO hS)) fun r s' h => ?_
  cases r with
  | error e => exact (hCX H e s' h).elim
  | ok fl =>
   cases fl with
   | next => exact False.elim h
   | brk => exact False.elim h
   | cont => exact False.elim h
   | ret u =>
    obtain ⟨v, H', os, bare, un, hok', r', q⟩ := h
    have q' : v = .bl true := q
    subst q'
    obtain rfl : u = Value.bool true := r'
    refine ⟨rfl, OldK.of_keep fun b o e => ?_, os, bare⟩
    cases q : H b with
    | none => exact un.keep b o e q (by intro z; exact absurd (show b ∈ ([] : List Addr) from z) (by simp)) (by simp)
    | some u =>
     rcases hO b with z | ⟨ob, xs, z⟩
     ·rw [q] at z; cases z
     ·have z2 := un.frzs b ob _ z
      obtain ⟨e1, _⟩ := hok b _ z
      obtain ⟨e2, _⟩ := hok' b _ z2
      rw [e] at e1; cases e1
      exact e2
 cases hk : K.lookup a with
 | some o =>
  have e := KX a o hk
  rw [ha] at e
  cases e
  refine core (fun _ => none) (fun _ => .inl rfl) (.inr ⟨_, vs.toArray, _, hk, rfl, rfl, rfl, by rw [List.size_toArray, lenV]; exact hl, by simpa using rv⟩) (fun b u z => by have z' : (none : Option HO) = some u := z; cases z') (fun b z => absurd rfl z) fun z => absurd rfl z
 | none =>
  refine core (fun b => if b = a then some (.frz { cls := .type "list", data := .seq vs.toArray } (.lst (ns.map V.int))) else none) (fun b => ?_) (.inl (.inr ⟨{ cls := .type "list", data := .seq vs.toArray }, if_pos rfl⟩)) (fun b u z => ?_) (fun b z => ?_) fun _ => hk
  ·by_cases hb : b = a
   ·exact .inr ⟨_, _, if_pos hb⟩
   ·exact .inl (if_neg hb)
  ·by_cases hb : b = a
   ·have z' := (if_pos hb).symm.trans z
    cases z'
    subst hb
    exact ⟨ha, by rw [lqm]; exact hl, vs, _, rv, ha⟩
   ·have z' := (if_neg hb).symm.trans z
    cases z'
  ·by_cases hb : b = a
   ·exact hb
   ·exact absurd (if_neg hb) z
end L2
namespace L2
open PySem PySem.Spec PyProof.Rows
theorem wb5 {l : PySem.W.OpenLaw} {n k : Nat} {q : Program} {loose : List Str} {XP : (Str -> Option Value) -> Heap -> Prop} {YP : World -> Heap -> Prop} {d : DefRec} {K : Params -> PySem.W.Frag} {CX : World -> CXT} {sp : World -> Sp} {x : Str}
  (hn : l.most = some n) (hn2 : n <= sizeLine) (hdf : d.params.defaults = []) (hr : Room k callerA)
  (hY : ∀ (w : World) (h : Heap), YP w h -> (K w.params).In h)
  (F : ∀ (w : World) (mg : Str -> Option Value) (fa : Addr) (h : Heap), (K w.params).In h -> h.Ns mainGlobals mg -> mg d.name = some (.ref fa) ->
   ∃ fd : FuncData, (∀ (s : Shared) (u : Value), BindsTo s fd ⟨[u], []⟩ [(x, u)]) /\
    ∀ base : Heap, (K w.params).In base -> base.Ns mainGlobals mg -> FnOk l.prog w (K w.params) mg base (CX w) k fa fd [x] (sp w))
  (hsp : ∀ (w : World) (H : Hp) (a : Addr) (ns : List Int), ns.length <= n -> Only H -> SqL (K w.params) H a (ns.map V.int) -> sp w [.ref a] H (fun v _ => v = .bl true) fun _ _ _ => False)
  (hCX : ∀ (w : World) (H : Hp) (s : Shared) (e : Value) (s' : Shared), CX w [] H s (fun _ _ _ => False) e s' -> False) :
  PySem.W.WalkO q loose XP YP l.row.toRowW d [] (fun f vs => PySem.call f vs) := by
 refine Att.attach_call hn hdf fun w s₀ s₁ mg mb fa o pm cd doc a vs ns G Y ho hd hcd hmg hobj hints hlen hg => ?_
 have KX := hY w _ Y
 obtain ⟨fd, hb, hF⟩ := F w mg fa _ KX G.T.g hmg
 exact xm6 KX G.T.g G.T.b G.T.builtins G.T.nolimit hg hobj hints (Nat.le_trans hlen hn2) hr hF hb (fun H hO hS => hsp w H a ns hlen hO hS) fun H e s' => hCX w H s₁ e s'
end L2
namespace L2
open PySem PySem.Spec PyProof.Rows
def zd2 (s : Stmt) : Arguments := match s with
 | .FunctionDef _ a _ _ _ _ _ _ _ _ => a
 | _ => { posonlyargs := [], args := [], vararg := none, kwonlyargs := [], kw_defaults := [], kwarg := none, defaults := [] }
def zc5 (s : Stmt) : List Stmt := match s with
 | .FunctionDef _ _ b _ _ _ _ _ _ _ => b
 | _ => []
def zb7 (s : Stmt) : Scope := match s with
 | .FunctionDef _ _ _ _ _ _ sc _ _ _ => sc
 | _ => { kind := .function, names := [], isGenerator := false, isCoroutine := false }
abbrev CX0 : CXT := fun _ _ _ _ _ _ => False
abbrev E0 : XK := fun _ _ _ => False
theorem zc6 {X : Cx} : xj6 CX0 X E0 := fun _ _ _ _ _ _ _ h => h.elim
structure Fun (K : PySem.W.Frag) (x qual : Str) (st : Stmt) (f : Addr) (fd : FuncData) : Prop where
 ex : ∃ (oc : Value) (od : Option Addr) (kV doc pm : Value) (an : Option Addr) (cdv ct : Value) (osl : Array (Option Value)),
  fd = PySem.W.fnOf x qual (zd2 st) (zc5 st) (zb7 st) .none kV doc pm an cdv ct /\ K.lookup f = some ⟨oc, od, .func fd, osl⟩ /\ PySem.W.codeIn K cdv qual = true
 kp : PySem.W.keepIn K (.ref f) = true
section
variable {P : Program} {w : World} {K : PySem.W.Frag} {mg : Str -> Option Value} {base : Heap}
theorem Fun.ok {x qual : Str} {st : Stmt} {f : Addr} {fd : FuncData} {N ps : List Str} {k : Nat} {sp : Sp} (F : Fun K x qual st f fd) (S : zd3 N ps (zb7 st)) (len : ∀ vs H Q E, sp vs H Q E -> vs.length = ps.length)
  (hbody : ∀ (cdv : Value) (A : Around) (outer : List Env) (s : Shared) (H : Hp) (vs : List V) (Q : VK) (E : XK), Room k (A.deeper (envOfC qual (zb7 st) s.heap.objs.size f cdv)) -> sp vs H Q E ->
   ∃ t, PSs (cxOf CX0 P w K mg base N qual (zb7 st) f cdv A outer s H E).nox (zc5 st) t /\ t { nx := fun _ H' => Q .non H', rt := Q } (yj7 N vs) H) : FnOk P w K mg base CX0 (k + 1) f fd ps sp := by
 obtain ⟨oc, od, kV, doc, pm, an, cdv, ct, osl, rfl, lk, hcd⟩ := F.ex
 refine fn_of lk hcd S len fun A outer s H vs Q E hr hsp => ?_
 obtain ⟨t, h, q⟩ := hbody cdv A outer s H vs Q E hr hsp
 exact ⟨t, h.nox, q⟩
theorem Fun.binds {x qual : Str} {st : Stmt} {f : Addr} {fd : FuncData} {ps : List Str} (F : Fun K x qual st f fd)
  (h : ∀ (kV doc pm : Value) (an : Option Addr) (cdv ct : Value) (us : List Value), us.length = ps.length -> bindArgs (PySem.W.fnOf x qual (zd2 st) (zc5 st) (zb7 st) .none kV doc pm an cdv ct) ⟨us, []⟩ = pure (ps.zip us)) : Binds K fd ps [] := by
 obtain ⟨oc, od, kV, doc, pm, an, cdv, ct, osl, rfl, lk, hcd⟩ := F.ex
 exact .all (h kV doc pm an cdv ct)
theorem zf5 {x qual : Str} {st : Stmt} {f : Addr} {oc : Value} {od an : Option Addr} {osl : Array (Option Value)} {kV doc pm cdv ct : Value} (l : K.lookup f = some ⟨oc, od, .func (PySem.W.fnOf x qual (zd2 st) (zc5 st) (zb7 st) .none kV doc pm an cdv ct), osl⟩)
  (c : PySem.W.codeIn K cdv qual = true) (k : PySem.W.keepIn K (.ref f) = true) : Fun K x qual st f (PySem.W.fnOf x qual (zd2 st) (zc5 st) (zb7 st) .none kV doc pm an cdv ct) := ⟨⟨oc, od, kV, doc, pm, an, cdv, ct, osl, rfl, l, c⟩, k⟩
end
theorem zm7 {A : Around} {k : Nat} (hr : Room k A) : A.units + 1 < cLine := Nat.lt_of_le_of_lt (Nat.add_le_add_left (by decide : 1 <= 64) _) hr.units
theorem zc2 {n : Nat} (h : n <= 1000) : n < sizeLine := Nat.lt_of_le_of_lt h (by decide)
section
variable {X : Cx}
theorem pv (i : Nat) {x : Str} {pos : Pos} (hN : X.N[i]? = some x := by rfl) (hv : Vis X.env.scope x := by first | exact Or.inl rfl | exact Or.inr (Or.inl rfl) | exact Or.inr (Or.inr rfl)) (hd : (x == ("__debug__" : Str)) = false := by decide)
  (hcd : (x == ("__classdict__" : Str)) = false := by decide) : PE X (.Name x pos) (tVar i) := xf4 hN hv hd hcd
end
theorem ite2 {c A B : Prop} [Decidable c] (h1 : c -> A) (h2 : ¬ c -> B) : if c then A else B := by
 by_cases h : c
 ·rw [if_pos h]
  exact h1 h
 ·rw [if_neg h]
  exact h2 h
section
variable {κ : Type} [DecidableEq κ]
theorem zv5 {kvs : List (κ × V)} {k : κ} (h : valV kvs k = none) : ¬ k ∈ kvs.map (·.1) := by
 intro m
 obtain ⟨p, hp, e⟩ := List.mem_map.mp m
 have q : (kvs.any fun kv => decide (kv.1 = k)) = true := List.any_eq_true.mpr ⟨p, hp, decide_eq_true e⟩
 rw [zk7, h] at q
 exact absurd q (by simp)
theorem yf7 {kvs : List (κ × V)} {k : κ} {v : V} (h : valV kvs k = some v) : k ∈ kvs.map (·.1) := by
 have q : (kvs.any fun kv => decide (kv.1 = k)) = true := by
  rw [zk7, h]
  all_goals rfl
 obtain ⟨p, hp, e⟩ := List.any_eq_true.mp q
 exact List.mem_map.mpr ⟨p, hp, of_decide_eq_true e⟩
theorem yn8 : ∀ {l : List κ} {k : κ}, l.Nodup -> ¬ k ∈ l -> (l ++ [k]).Nodup
 | [], k, _, _ => by simp
 | a :: r, k, h, hk => by
  obtain ⟨h1, h2⟩ := List.nodup_cons.mp h
  show (a :: (r ++ [k])).Nodup
  refine List.nodup_cons.mpr ⟨fun m => ?_, yn8 h2 fun m => hk (List.mem_cons.mpr (Or.inr m))⟩
  rcases List.mem_append.mp m with q | q
  ·exact h1 q
  ·exact hk (List.mem_cons.mpr (Or.inl (List.mem_singleton.mp q).symm))
end
end L2
end
section
namespace L2
open PySem PySem.Spec PyProof.Rows
def clOf (env : Env) : List (Str × NameKind) -> List (Str × Addr)
 | [] => []
 | (n, k) :: r => clOf env r ++ (if k = .free then [(n, (env.cells.lookup n).getD 0)] else [])
theorem zs4 {env : Env} : ∀ (l : List (Str × NameKind)) (cs : List (Str × Addr)), (∀ y ∈ l, y.2 = .free -> ∃ c, env.cells.lookup y.1 = some c) ->
  (forIn l cs fun (x : Str × NameKind) (r : List (Str × Addr)) => if (x.2 == .free) = true then (do let c ← cellOf env x.1; pure (ForInStep.yield ((x.1, c) :: r)) : Sem (ForInStep (List (Str × Addr)))) else pure (ForInStep.yield r)) = pure (clOf env l ++ cs)
 | [], cs, _ => by simp [clOf]
 | (n, k) :: r, cs, h => by
  rw [List.forIn_cons]
  by_cases hk : k = .free
  ·subst hk
   obtain ⟨c, hc⟩ := h (n, .free) (by simp) rfl
   have e : cellOf env n = pure c := by unfold cellOf; rw [hc]
   simp only [beq_self_eq_true, if_true, e, pure_bind]
   rw [zs4 r ((n, c) :: cs) fun y hy => h y (List.mem_cons_of_mem _ hy)]
   simp [clOf, hc]
  ·have hb : (k == NameKind.free) = false := by simpa using hk
   simp only [hb, Bool.false_eq_true, if_false, pure_bind]
   rw [zs4 r cs fun y hy => h y (List.mem_cons_of_mem _ hy)]
   simp [clOf, hk]
theorem zm6 {env : Env} {scope : Scope} (h : ∀ y ∈ scope.names, y.2 = .free -> ∃ c, env.cells.lookup y.1 = some c) : closureFor scope env = pure (clOf env scope.names) := by
 have e := zs4 (env := env) scope.names [] h
 rw [List.append_nil] at e
 unfold closureFor
 refine Eq.trans ?_ (congrArg (fun z => z >>= pure) e)
 rfl
theorem yf0 {env : Env} {x : Str} {c : Addr} : ∀ {l : List (Str × NameKind)}, (x, c) ∈ clOf env l -> (x, NameKind.free) ∈ l /\ c = (env.cells.lookup x).getD 0
 | [], h => by simp [clOf] at h
 | (n, k) :: r, h => by
  unfold clOf at h
  rcases List.mem_append.mp h with h | h
  ·obtain ⟨h1, h2⟩ := yf0 h
   exact ⟨List.mem_cons_of_mem _ h1, h2⟩
  ·by_cases hk : k = .free
   ·rw [if_pos hk] at h
    have e := List.mem_singleton.mp h
    cases e
    subst hk
    exact ⟨by simp, rfl⟩
   ·rw [if_neg hk] at h
    simp at h
theorem yr8 {env : Env} {x : Str} : ∀ {l : List (Str × NameKind)}, (x, NameKind.free) ∈ l -> (x, (env.cells.lookup x).getD 0) ∈ clOf env l
 | [], h => by simp at h
 | (n, k) :: r, h => by
  unfold clOf
  rcases List.mem_cons.mp h with h | h
  ·cases h
   exact List.mem_append_right _ (by simp)
  ·exact List.mem_append_left _ (yr8 h)
theorem zn6 {x : Str} {v : Addr} : ∀ {l : List (Str × Addr)}, (x, v) ∈ l -> (∀ w, (x, w) ∈ l -> w = v) -> l.lookup x = some v
 | [], h, _ => by simp at h
 | (n, w) :: r, h, u => by
  rw [List.lookup_cons]
  by_cases e : x = n
  ·subst e
   simp [u w (by simp)]
  ·have hb : (x == n) = false := by simpa using e
   rw [hb]
   rcases List.mem_cons.mp h with h | h
   ·cases h; exact absurd rfl e
   ·exact zn6 h fun w' hw => u w' (List.mem_cons_of_mem _ hw)
theorem ym9 {env : Env} {x : Str} {l : List (Str × NameKind)} (h : (x, NameKind.free) ∈ l) : (clOf env l).lookup x = some ((env.cells.lookup x).getD 0) :=
 zn6 (yr8 h) fun w hw => (yf0 hw).2
def blk (X : Cx) (scope : Scope) (N' : List Str) (s3 : Shared) (H3 : Hp) (C : Addr) (fp : List Addr) : Cx :=
 { X with N := N', s₀ := s3, H₀ := H3, env := compEnvC scope (clOf X.env scope.names) C X.env, outer := X.stack, stack := X.stack, ex := fp, fn := fun x => ((clOf X.env scope.names).lookup x).isNone, pn := [], xe := fun _ _ => False }
structure BlkN (X : Cx) (scope : Scope) (N' : List Str) (src : List (Option Nat)) : Prop where
 kind : scope.kind = .function
 nocell : (scope.names.all fun y => decide (y.2 ≠ .cell)) = true
 locs : (scope.names.all fun y => decide (y.2 = .local -> scope.names.lookup y.1 = some .local)) = true
 frees : (scope.names.all fun y => decide (y.2 = .free -> X.env.kindOf y.1 = some .cell ∨ X.env.kindOf y.1 = some .free)) = true
 slen : src.length = N'.length
 cap : ((N'.zip src).all fun p => match p.2 with | some j => decide (X.N[j]? = some p.1) && decide ((p.1, NameKind.free) ∈ scope.names) | none => true) = true
def sub (src : List (Option Nat)) (σ : St) : St := src.map fun o => o.bind fun j => (σ[j]?).join
theorem zr4 {scope : Scope} {env : Env} {x : Str} {k : NameKind} (h : (relabel scope env).names.lookup x = some k) : (x, k) ∈ scope.names ∨ (k = .cell /\ (x, NameKind.free) ∈ scope.names) := by
 have m := PySem.mem_of_lookup h
 obtain ⟨⟨n, k'⟩, hm, e⟩ := List.mem_map.mp m
 dsimp only at e
 split at e
 ·rename_i hc
  cases e
  have : k' = .free := by
   simp only [Bool.and_eq_true, beq_iff_eq] at hc
   exact hc.1.1
  subst this
  exact .inr ⟨rfl, hm⟩
 ·cases e
  exact .inl hm
theorem zv0 {env : Env} {x : Str} : ∀ {names : List (Str × NameKind)}, (x, NameKind.free) ∈ names -> (∀ k, (x, k) ∈ names -> k ≠ .local /\ k ≠ .globalExplicit /\ k ≠ .globalImplicit /\ k ≠ .cell) ->
  let q := (names.map fun (n, k) => if (k == NameKind.free && env.scope.kind == .function && env.kindOf n == some .cell) then (n, NameKind.cell) else (n, k)).lookup x
  q = some .cell ∨ q = some .free
 | [], h, _ => by simp at h
 | (n, k) :: r, h, u => by
  intro q
  show List.lookup x ((if (k == NameKind.free && env.scope.kind == .function && env.kindOf n == some .cell) = true then (n, NameKind.cell) else (n, k)) :: _) = _ ∨ List.lookup x ((if (k == NameKind.free && env.scope.kind == .function && env.kindOf n == some .cell) = true then (n, NameKind.cell) else (n, k)) :: _) = _
  by_cases e : x = n
  ·subst e
   obtain ⟨u1, u2, u3, u4⟩ := u k (by simp)
   have hk : k = .free := by cases k <;> simp_all
   subst hk
   by_cases hc : (NameKind.free == NameKind.free && env.scope.kind == .function && env.kindOf x == some .cell) = true
   ·rw [if_pos hc]; left; simp [List.lookup_cons]
   ·rw [if_neg hc]; right; simp [List.lookup_cons]
  ·have hb : (x == n) = false := by simpa using e
   have ih := zv0 (env := env) (names := r) (x := x) ((List.mem_cons.mp h).resolve_left fun z => e (by cases z; rfl)) fun k' hk' => u k' (List.mem_cons_of_mem _ hk')
   split
   ·simp only [List.lookup_cons, hb]; exact ih
   ·simp only [List.lookup_cons, hb]; exact ih
section
variable {X : Cx} {scope : Scope} {N' : List Str} {src : List (Option Nat)} {pins : List (Addr × Obj)} {σ : St} {H3 : Hp} {s3 s4 : Shared} {C : Addr} {fp : List Addr}
theorem BlkN.cells (B : BlkN X scope N' src) (ok : X.Ok) {x : Str} (h : (x, NameKind.free) ∈ scope.names) : ∃ c, X.env.cells.lookup x = some c /\ (clOf X.env scope.names).lookup x = some c := by
 have q := of_decide_eq_true (List.all_eq_true.mp B.frees (x, .free) h)
 obtain ⟨c, hc⟩ := ok.has x (q rfl)
 exact ⟨c, hc, by rw [ym9 h, hc]; rfl⟩
theorem BlkN.back (B : BlkN X scope N' src) (ok : X.Ok) {x : Str} {c : Addr} (h : (clOf X.env scope.names).lookup x = some c) : X.env.cells.lookup x = some c /\ (x, NameKind.free) ∈ scope.names := by
 obtain ⟨h1, h2⟩ := yf0 (PySem.mem_of_lookup h)
 obtain ⟨c', e1, e2⟩ := B.cells ok h1
 rw [h] at e2
 cases e2
 exact ⟨e1, h1⟩
theorem BlkN.captured (B : BlkN X scope N' src) {i j : Nat} {x : Str} (h1 : N'[i]? = some x) (h2 : src[i]? = some (some j)) : X.N[j]? = some x /\ (x, NameKind.free) ∈ scope.names := by
 have hz : (N'.zip src)[i]? = some (x, some j) := by
  rw [List.getElem?_zip_eq_some]
  exact ⟨h1, h2⟩
 have q := List.all_eq_true.mp B.cap (x, some j) (List.mem_of_getElem? hz)
 have q' : (decide (X.N[j]? = some x) && decide ((x, NameKind.free) ∈ scope.names)) = true := q
 rw [Bool.and_eq_true] at q'
 exact ⟨of_decide_eq_true q'.1, of_decide_eq_true q'.2⟩
theorem yk6 (B : BlkN X scope N' src) (I : Inv X pins σ H3 s3) (hf : ∀ b ∈ fp, FpOk X pins H3 b) (hlt : ∀ b ∈ fp, b < s3.heap.objs.size) (hnl : ∀ x k, (x, k) ∈ scope.names -> k = .free -> ∀ k', (x, k') ∈ scope.names -> k' = .free)
  (hC : C = s3.heap.objs.size) (hn : s4.heap.Ns C (fun _ => none)) (hk : ∀ b o, s3.heap.get? b = some o -> s4.heap.get? b = some o) (ho : s4.os = s3.os) (hg : s4.gens = s3.gens) :
  Inv (blk X scope N' s3 H3 C fp) [] (sub src σ) H3 s4 := by
 subst hC
 have ok := I.ok
 refine ⟨⟨ok.mod, B.kind, ok.glob, ok.blt, Nat.le_refl _, fun x y c h1 h2 => ?_, fun x h => ?_, fun x c h1 h2 => ?_, ok.hd, ok.frames, .inl rfl, fun b hb => ⟨Nat.ne_of_lt (hlt b hb), fun x c h => ?_⟩, I.bs, Nat.le_trans ok.bsz I.sz, fun b o e hb => ?_, fun b hb hs => ?_, I.stack, I.stkFree⟩,
  ho, ?_, Un.kept hk, ⟨_, hn, fun i x v h1 h2 h3 => ?_⟩, fun x c h => ?_, I.hok.fresh (Nat.le_refl _), fun x c h => I.freeC x c (B.back ok h).1, fun p hp => absurd (show p ∈ ([] : List (Addr × Obj)) from hp) (by simp), I.hok.kept hk, ?_⟩
 ·exact ok.inj x y c (B.back ok h1).1 (B.back ok h2).1
 ·have h : (relabel scope X.env).names.lookup x = some .cell ∨ (relabel scope X.env).names.lookup x = some .free := h
  have hm : (x, NameKind.free) ∈ scope.names := by
   rcases h with h | h
   ·rcases zr4 h with q | ⟨_, q⟩
    ·exact absurd rfl (of_decide_eq_true (List.all_eq_true.mp B.nocell _ q))
    ·exact q
   ·rcases zr4 h with q | ⟨z, _⟩
    ·exact q
    ·cases z
  obtain ⟨c, _, e⟩ := B.cells ok hm
  exact ⟨c, e⟩
 ·have h1 : ((clOf X.env scope.names).lookup x).isNone = true := h1
  have h2 : (clOf X.env scope.names).lookup x = some c := h2
  rw [h2] at h1
  simp at h1
 ·exact (hf b hb).2.2.2.2.1 x c (B.back ok h).1
 ·rcases (hf b hb).2.2.2.1 with z | z
  ·exact ok.noex b o e z
  ·exact absurd (Nat.lt_of_lt_of_le (Heap.lt_size e) (Nat.le_trans ok.bsz z)) (Nat.lt_irrefl _)
 ·rcases List.mem_cons.mp (I.stkSub b hs) with z | z
  ·exact (hf b hb).2.1 z
  ·exact (hf b hb).2.2.1 z
 ·rw [hg]; exact I.bare
 ·have hs2 : ∃ j, src[i]? = some (some j) /\ σ[j]? = some (some v) := by
   have h2 : (src.map fun o => o.bind fun j => (σ[j]?).join)[i]? = some (some v) := h2
   rw [List.getElem?_map] at h2
   cases e : src[i]? with
   | none => rw [e] at h2; cases h2
   | some o =>
    rw [e] at h2
    cases o with
    | none => cases h2
    | some j =>
     refine ⟨j, rfl, ?_⟩
     have h2 : some ((σ[j]?).join) = some (some v) := h2
     cases e2 : σ[j]? with
     | none => rw [e2] at h2; cases h2
     | some z => rw [e2] at h2; cases z with
      | none => cases h2
      | some z => cases h2; rfl
  obtain ⟨j, hj, hv⟩ := hs2
  obtain ⟨hN, hm⟩ := B.captured h1 hj
  obtain ⟨c, hc, hcl⟩ := B.cells ok hm
  have kk := of_decide_eq_true (List.all_eq_true.mp B.frees _ hm) rfl
  obtain ⟨m, _, hl⟩ := I.loc
  have hvis : Vis X.env.scope x := by
   rcases kk with z | z
   ·exact .inr (.inl z)
   ·exact .inr (.inr z)
  obtain ⟨u, ru, lk⟩ := hl j x v hN hv hvis
  refine ⟨u, ru, .inr ⟨?_, c, hcl, ?_⟩⟩
  ·exact zv0 hm fun k hk' => by
    have := hnl x .free hm rfl k hk'
    subst this
    exact ⟨by decide, by decide, by decide, by decide⟩
  ·rcases lk with ⟨z, _⟩ | ⟨_, c', e', ⟨o, eo, ed⟩⟩
   ·rcases kk with y | y <;> (rw [z] at y; cases y)
   ·rw [hc] at e'; cases e'
    exact ⟨o, hk _ _ eo, ed⟩
 ·obtain ⟨v, o, e, d⟩ := I.cell x c (B.back ok h).1
  exact ⟨v, o, hk _ _ e, d⟩
 ·show (sub src σ).length = N'.length
  unfold sub
  rw [lqm]
  exact B.slen
end
end L2
end
section
namespace L2
open PySem PySem.Spec PyProof.Rows
theorem yj4 {prog : Program} {w : World} {A : Around} {R : Result -> Shared -> Prop} {s : Shared} {elt target iter : Expr} {ifs : List Expr} {scope : Scope} {pos : Pos} {it acc : Value} {env : Env} (I : Nat -> Shared -> Prop)
  (turn : ∀ n s, I n s -> wpAny (model prog w) A (pyNext it) (fun r s₁ => match r with
   | none => R (.ok .next) s₁
   | some v => wpAny (model prog w) A (letOwnedTupleGo target it v) (fun _ s₁ => wpAny (model prog w) A (assign target env v) (fun _ s₂ =>
     wpAny (model prog w) A (forIn ifs true fun c r => if r = true then do let ok ← isTrue c env (eval c env); pure (ForInStep.yield ok) else pure (ForInStep.yield r)) (fun ok s₃ =>
      if ok = true then wpAny (model prog w) A (eval elt env) (fun x s₄ =>
       wpAny (model prog w) A (call (.builtin "list.append") [acc, x]) (fun _ s₅ => ∃ m, m < n /\ I m s₅) (fun _ _ => False) s₄) (fun _ _ => False) s₃
      else ∃ m, m < n /\ I m s₃) (fun _ _ => False) s₂) (fun _ _ => False) s₁) (fun _ _ => False) s₁) (fun _ _ => False) s)
  (n : Nat) (h : I n s) :
  codeAny (model prog w) A (.compLoop (.ListComp elt [⟨target, iter, ifs, 0⟩] scope pos) 0 it acc env) R s := by
 refine codeAny_loop rfl I (fun n s hI => ?_) n h
 show wpAny _ A ((compTurn (.ListComp elt [⟨target, iter, ifs, 0⟩] scope pos) 0 it acc env).onRaise (fun x => do noteFrame x env; theTreesLotGoes x)) _ _ s
 refine wpAny_noted ?_
 rw [compTurn_list]
 refine wpAny_bind (wpAny_standAt (wpAny_bind (wpAny_mono (turn n s hI) (fun r s₁ h₁ => ?_) fun _ _ h' => h'.elim)))
 cases r with
 | none => exact wpAny_pure h₁
 | some v =>
  refine wpAny_bind (wpAny_mono h₁ (fun _ s₁ h₁ => ?_) fun _ _ h' => h'.elim)
  refine wpAny_bind (wpAny_mono h₁ (fun _ s₂ h₂ => wpAny_bind (wpAny_mono h₂ (fun ok s₃ h₃ => ?_) fun _ _ h' => h'.elim)) fun _ _ h' => h'.elim)
  cases ok with
  | false => exact wpAny_pure ⟨rfl, h₃⟩
  | true =>
   exact wpAny_bind (wpAny_bind (wpAny_mono h₃ (fun x s₄ h₄ => wpAny_bind (wpAny_mono h₄ (fun _ s₅ h₅ => wpAny_pure (wpAny_pure ⟨rfl, h₅⟩)) fun _ _ h' => h'.elim)) fun _ _ h' => h'.elim))
def PTs (X : Cx) (ifs : List Expr) (t : TT) : Prop :=
 ∀ (pins : List (Addr × Obj)) (s : Shared) (σ : St) (H : Hp) (Q : Bool -> Hp -> Prop), Inv X pins σ H s -> t σ H Q ->
  wpAny (model X.prog X.w) X.A (forIn ifs true fun c r => if r = true then do let ok ← isTrue c X.env (eval c X.env); pure (ForInStep.yield ok) else pure (ForInStep.yield r)) (TP X pins σ Q) X.xe s
def tAll : TT := fun _ H Q => Q true H
theorem zh3 {X : Cx} : PTs X [] tAll := fun _ _ _ H _ I h => wpAny_tests_nil ⟨H, I, h⟩
theorem zm5 {X : Cx} {c : Expr} {t : TT} (h : PT X c t) : PTs X [c] t := fun pins s σ H Q I q => wpAny_tests_one (h pins s σ H Q I q)
def zz8 (J : It) (g : TG) (tt : TT) (te : TE) (D : Addr) (σ0 : St) (H0 : Hp) (Q : Hp -> Prop) : Prop :=
 ∃ W : Nat -> Nat -> St -> Hp -> Prop, (∃ m, W 0 m σ0 H0) /\ ∀ i m σ H, W i m σ H ->
 (J.stop i H /\ Q H) ∨ (J.go i H /\ ∃ N : St -> Hp -> Prop, (∀ σ' H', N σ' H' -> ∃ m', m' < m /\ W (i + 1) m' σ' H') /\ ∀ x H', J.yld i H x H' -> g x σ H' fun σ2 H2 => tt σ2 H2 fun b H3 =>
  if b = true then te σ2 H3 fun v H4 => ∃ xs, H4 D = some (.lst xs) /\ xs.length < sizeLine /\ N σ2 (upd H4 D (.lst (xs ++ [v]))) else N σ2 H3)
section
variable {X : Cx} {scope : Scope} {N' : List Str} {src : List (Option Nat)} {pins : List (Addr × Obj)} {σ : St} {H2 : Hp} {s2 : Shared}
theorem yb9 {elt tg iter : Expr} {ifs : List Expr} {pos : Pos} {it : Addr} {fp : List Addr} {tn : Nat -> Heap -> Prop} {J : It} {g : TG} {tt : TT} {te : TE} {Q : Addr -> Hp -> Prop}
  {RR : Value -> Addr -> Result -> Shared -> Prop} {E : Value -> Shared -> Prop} (hc : X.calm = true)
  (B : BlkN X scope N' src) (hnl : ∀ x k, (x, k) ∈ scope.names -> k = .free -> ∀ k', (x, k') ∈ scope.names -> k' = .free) (T : Turn X.prog X.w X.K tg J fp it tn) (I : Inv X pins σ H2 s2) (h0 : tn 0 s2.heap) (hf : ∀ b ∈ fp, FpOk X pins H2 b)
  (hg : ∀ s3 H3 C, PG (blk X scope N' s3 H3 C fp) tg g) (ht : ∀ s3 H3 C, PTs (blk X scope N' s3 H3 C fp) ifs tt) (he : ∀ s3 H3 C, PE (blk X scope N' s3 H3 C fp) elt te)
  (hw : ∀ D, H2 D = none -> zz8 J g tt te D (sub src σ) (upd H2 D (.lst [])) (Q D))
  (hQ : ∀ D C H' s', C ≠ D -> (∃ m, s'.heap.Ns C m) -> (∀ h'' , Heap.SameBut C s'.heap h'' -> Inv X pins σ H' { s' with heap := h'' }) -> Inv X pins σ H' s' -> H' C = none -> C ≠ X.env.locals -> (∀ x c, X.env.cells.lookup x = some c -> c ≠ C) -> X.s₀.heap.objs.size <= C -> (∀ p ∈ X.pn ++ pins, p.1 ≠ C) -> Q D H' -> RR (.ref D) C (.ok .next) s') :
  wpAny (model X.prog X.w) X.A (newList []) (fun acc s₃ => wpAny (model X.prog X.w) X.A (newFunctionEnv scope X.env.globals (clOf X.env scope.names) [] X.env.qual none .none (some X.env)) (fun cenv s₄ =>
   codeAny (model X.prog X.w) X.A (.compStart (.ListComp elt [⟨tg, iter, ifs, 0⟩] scope pos) 0 (.ref it) acc { cenv with scope := relabel scope X.env }) (RR acc cenv.locals) s₄) E s₃) E s2 := by
 have hcell : ∀ y ∈ scope.names, y.2 ≠ .cell := fun y hy => of_decide_eq_true (List.all_eq_true.mp B.nocell y hy)
 refine wpAny_newObj_type (wpAny_newFunctionEnv hcell (by intro y hy; simp at hy) (fun h₁ hns₁ hsb₁ => ?_) B.kind)
 dsimp only at hns₁ hsb₁ ⊢
 have hDn : H2 s2.heap.objs.size = none := I.hok.fresh (Nat.le_refl _)
 have I3 : Inv X pins σ (upd H2 s2.heap.objs.size (.lst [])) { s2 with heap := s2.heap.push { cls := .type "list", dict := none, data := .seq ([] : List Value).toArray } } :=
  I.laid (t' := s2.toks) (fun b o e => Heap.get?_push_of_some _ e) (Nat.le_refl _) ⟨Nat.zero_le _, [], _, .nil, Heap.get?_push_size _ rfl⟩
 generalize hH3 : (s2.heap.push { cls := .type "list", dict := none, data := .seq ([] : List Value).toArray }) = hp3 at hns₁ hsb₁ I3 ⊢
 have hsz3 : hp3.objs.size = s2.heap.objs.size + 1 := by rw [← hH3, Heap.size_push]
 have keep23 : ∀ b o, s2.heap.get? b = some o -> hp3.get? b = some o := fun b o e => by rw [← hH3]; exact Heap.get?_push_of_some _ e
 have keep34 : ∀ b o, hp3.get? b = some o -> h₁.get? b = some o := fun b o e => hsb₁.extBut b o (Nat.ne_of_lt (Heap.lt_size e)) (Heap.get?_push_of_some _ e)
 have hDlt : s2.heap.objs.size < hp3.objs.size := by rw [hsz3]; exact Nat.lt_succ_self _
 have hf3 : ∀ b ∈ fp, FpOk X pins (upd H2 s2.heap.objs.size (.lst [])) b := fun b hb => by
  obtain ⟨o, e, _⟩ := T.obj _ _ h0 b hb
  refine ⟨?_, (hf b hb).2⟩
  rw [zb5 (Nat.ne_of_lt (Heap.lt_size e))]
  exact (hf b hb).1
 have hlt3 : ∀ b ∈ fp, b < hp3.objs.size := fun b hb => by
  obtain ⟨o, e, _⟩ := T.obj _ _ h0 b hb
  exact Nat.lt_trans (Heap.lt_size e) hDlt
 have hIb := yk6 (fp := fp) (C := hp3.objs.size) (s4 := { s2 with heap := h₁, toks := s2.toks + ([] : List (Str × Value)).length }) B I3 hf3 hlt3 hnl rfl hns₁ keep34 rfl rfl
 have h04 : tn 0 h₁ := T.keep _ _ _ h0 fun b hb o e => keep34 b o (keep23 b o e)
 obtain ⟨W, ⟨m0, w0⟩, turn⟩ := hw s2.heap.objs.size hDn
 have frB : ∀ {H' : Hp}, (∀ b ∈ fp, H' b = none) -> ∀ b ∈ fp, FpOk (blk X scope N' { s2 with heap := hp3 } (upd H2 s2.heap.objs.size (.lst [])) hp3.objs.size fp) [] H' b := fun hn b hb => by
  refine ⟨hn b hb, Nat.ne_of_lt (hlt3 b hb), ?_, .inl hb, fun x c h => (hf b hb).2.2.2.2.1 x c (B.back I.ok h).1, fun p hp => absurd (show p ∈ ([] : List (Addr × Obj)) from hp) (by simp)⟩
  intro z
  rcases List.mem_cons.mp (I3.stkSub b z) with y | y
  ·exact (hf b hb).2.1 y
  ·exact (hf b hb).2.2.1 y
 have fin : ∀ (s' : Shared) (σ' : St) (H' : Hp), Inv (blk X scope N' { s2 with heap := hp3 } (upd H2 s2.heap.objs.size (.lst [])) hp3.objs.size fp) [] σ' H' s' -> Q s2.heap.objs.size H' -> RR (.ref s2.heap.objs.size) hp3.objs.size (.ok .next) s' := fun s' σ' H' J' q => by
  obtain ⟨hh, gg, dd, tt', os'⟩ := s'
  have eos : os' = s2.os := J'.os
  subst eos
  have IX : Inv X pins σ H' { ({ s2 with heap := hp3 } : Shared) with heap := hh, gens := gg, drawn := dd, toks := tt' } := Inv.call (s := { s2 with heap := hp3 }) I3 (h' := hh) (g' := gg) (d' := dd) (t' := tt') (ch := fp) J'.base J'.hok J'.bare fun b hb => ⟨(hf b hb).2.2.2.1, (hf b hb).2.1, (hf b hb).2.2.2.2.1, (hf b hb).2.2.2.2.2⟩
  have hCs : s2.heap.objs.size <= hp3.objs.size := Nat.le_of_lt hDlt
  have hCL : hp3.objs.size ≠ X.env.locals := Nat.ne_of_gt I3.lt
  have hCc : ∀ x c, X.env.cells.lookup x = some c -> c ≠ hp3.objs.size := fun x c e z => by
   obtain ⟨v, q⟩ := I3.cell x c e
   exact absurd (show c < hp3.objs.size from q.lt) (by rw [z]; exact Nat.lt_irrefl _)
  have hCp : ∀ p ∈ X.pn ++ pins, p.1 ≠ hp3.objs.size := fun p hp z => by
   have := Heap.lt_size (I3.pin p hp).1
   exact absurd (show p.1 < hp3.objs.size from this) (by rw [z]; exact Nat.lt_irrefl _)
  have hCh : H' hp3.objs.size = none := J'.free
  obtain ⟨m, hm, _⟩ := J'.loc
  refine hQ _ _ H' _ (Nat.ne_of_gt hDlt) ⟨m, hm⟩ (fun h'' sb => ?_) IX hCh hCL hCc (Nat.le_trans I3.sz (Nat.le_refl _)) hCp q
  exact IX.turned (t' := tt') (fun b o hb e => (sb.2 b hb).trans e) hCh hCL (.inr (Nat.le_trans I3.sz (Nat.le_refl _))) hCc hCp
 have loop : ∀ s₃ : Shared, s₃ = { s2 with heap := h₁, toks := s2.toks + ([] : List (Str × Value)).length } ->
   codeAny (model X.prog X.w) X.A (.compLoop (.ListComp elt [⟨tg, iter, ifs, 0⟩] scope pos) 0 (.ref it) (.ref s2.heap.objs.size) (compEnvC scope (clOf X.env scope.names) hp3.objs.size X.env))
    (RR (.ref s2.heap.objs.size) hp3.objs.size) s₃ := by
  rintro s₃ rfl
  refine yj4 (fun n s' => ∃ i σ' H', Inv (blk X scope N' { s2 with heap := hp3 } (upd H2 s2.heap.objs.size (.lst [])) hp3.objs.size fp) [] σ' H' s' /\ tn i s'.heap /\ (∀ b ∈ fp, H' b = none) /\ W i n σ' H') ?_ m0 ⟨0, _, _, hIb, h04, fun b hb => (hf3 b hb).1, w0⟩
  rintro n s5 ⟨i, σ5, H5, I5, st5, fr5, w5⟩
  rcases turn i n σ5 H5 w5 with ⟨stop, qn⟩ | ⟨go, Nx, hN, step⟩
  ·refine thn (T.done (blk X scope N' { s2 with heap := hp3 } (upd H2 s2.heap.objs.size (.lst [])) hp3.objs.size fp) rfl rfl rfl hc i [] s5 σ5 H5 _ I5 (frB fr5) st5 stop) fun r s6 ⟨hr, I6⟩ => ?_
   subst hr
   exact fin s6 σ5 H5 I6 qn
  ·refine thn (T.item (blk X scope N' { s2 with heap := hp3 } (upd H2 s2.heap.objs.size (.lst [])) hp3.objs.size fp) rfl rfl rfl hc i [] s5 σ5 H5 _ I5 (frB fr5) st5 go) fun r s6 ⟨u, hr, h6⟩ => ?_
   subst hr
   refine thn h6 fun _ s7 ⟨x, H7, I7, r7, y7, st7, fr7⟩ => ?_
   have I7' := I7.pinned (frB fr7) (T.obj _ _ st7)
   refine thn (hg _ _ _ _ s7 σ5 H7 x u _ I7' r7 (step x H7 y7)) fun _ s8 ⟨σ8, H8, I8, q8⟩ => ?_
   refine thn (ht _ _ _ _ s8 σ8 H8 _ I8 q8) fun ok s9 ⟨H9, I9, q9⟩ => ?_
   have again : ∀ {σa : St} {Ha : Hp} {sa : Shared}, Inv (blk X scope N' { s2 with heap := hp3 } (upd H2 s2.heap.objs.size (.lst [])) hp3.objs.size fp) ([] ++ yb5 fp s7.heap) σa Ha sa -> Nx σa Ha ->
     ∃ m, m < n /\ ∃ i σ' H', Inv (blk X scope N' { s2 with heap := hp3 } (upd H2 s2.heap.objs.size (.lst [])) hp3.objs.size fp) [] σ' H' sa /\ tn i sa.heap /\ (∀ b ∈ fp, H' b = none) /\ W i m σ' H' := fun {σa Ha sa} Ia na => by
    obtain ⟨m', hm, wa⟩ := hN σa Ha na
    refine ⟨m', hm, i + 1, σa, Ha, Ia.unpinned, T.keep _ _ _ st7 fun b hb o e => (Ia.pin (b, o) (List.mem_append_right _ (List.mem_append_right _ (zk3 hb e)))).1, fun b hb => ?_, wa⟩
    obtain ⟨o, e, d⟩ := T.obj _ _ st7 b hb
    exact (Ia.pin (b, o) (List.mem_append_right _ (List.mem_append_right _ (zk3 hb e)))).2.1
   cases ok with
   | false => exact again I9 q9
   | true =>
    refine thn (he _ _ _ _ s9 σ8 H9 _ I9 q9) fun y s10 ⟨v, H10, I10, r10, xs, hx, hl, q10⟩ => ?_
    refine thn (zf0 (X := blk X scope N' { s2 with heap := hp3 } (upd H2 s2.heap.objs.size (.lst [])) hp3.objs.size fp) _ s10 σ8 H10 (.ref s2.heap.objs.size) [v] (.ref s2.heap.objs.size) [y] (fun _ H' => Nx σ8 H') I10 rfl (.cons r10 .nil) ⟨_, xs, v, rfl, rfl, hx, hl, q10⟩) fun _ s11 ⟨_, H11, I11, _, q11⟩ => ?_
    exact again I11 q11
 exact codeAny_compStart_list (loop _ rfl) (T.self _ 0 _ _ _ h04 (loop _ rfl))
def xp3 (wi : TI) (src : List (Option Nat)) (g : TG) (tt : TT) (te : TE) : TE := fun σ H Q => wi σ H fun J H2 => ∀ D, H2 D = none -> zz8 J g tt te D (sub src σ) (upd H2 D (.lst [])) fun H' => Q (.ref D) H'
theorem zh8 {elt tg iter : Expr} {ifs : List Expr} {pos : Pos} {wi : TI} {g : TG} {tt : TT} {te : TE} (hc : X.calm = true) (B : BlkN X scope N' src) (hi : PI X tg iter wi)
  (hg : ∀ s3 H3 C fp, PG (blk X scope N' s3 H3 C fp) tg g) (ht : ∀ s3 H3 C fp, PTs (blk X scope N' s3 H3 C fp) ifs tt) (he : ∀ s3 H3 C fp, PE (blk X scope N' s3 H3 C fp) elt te)
  (hnl : (scope.names.all fun y => decide (y.2 = .free -> ∀ z ∈ scope.names, z.1 = y.1 -> z.2 = .free)) = true := by decide +kernel)
  (hs : ∀ x, foldedSetIterable iter X.env x = pure x := by intro _; rfl) :
  PE X (.ListComp elt [⟨tg, iter, ifs, 0⟩] scope pos) (xp3 wi src g tt te) := by
 intro pins s σ H Q I h
 have hnl' : ∀ x k, (x, k) ∈ scope.names -> k = .free -> ∀ k', (x, k') ∈ scope.names -> k' = .free := fun x k hm hk k' hm' => of_decide_eq_true (List.all_eq_true.mp hnl (x, k) hm) hk (x, k') hm' rfl
 have hclos : closureFor scope X.env = pure (clOf X.env scope.names) := zm6 fun y hy hf => I.ok.has y.1 (of_decide_eq_true (List.all_eq_true.mp B.frees y hy) hf)
 have hnames : ∀ y ∈ scope.names, y.2 = .local -> scope.names.lookup y.1 = some .local := fun y hy => of_decide_eq_true (List.all_eq_true.mp B.locs y hy)
 rw [eval_ListComp]
 refine wpAny_comprehension_free (use := none) rfl hs hclos B.kind hnames (thn (hi pins s σ H _ I h) fun xv s₁ h₁ => thn h₁ fun itv s2 h2 => ?_)
 obtain ⟨it, fp, tn, J, H2, rfl, I2, T, h0, hf, hw⟩ := h2
 refine yb9 (RR := fun acc C => compPost (model X.prog X.w) X.A X.xe none (EP X pins σ Q) acc C) (Q := fun D H' => Q (.ref D) H') hc B hnl' T I2 h0 hf (fun a b c => hg a b c fp) (fun a b c => ht a b c fp) (fun a b c => he a b c fp) hw ?_
 intro D C H' s' hCD hm hsb IX hCh hCL hCc hCs hCp q
 obtain ⟨m, hm⟩ := hm
 exact ⟨m, hm, fun h'' sb => ⟨.ref D, H', hsb h'' sb, rfl, q⟩⟩
theorem zh1 {elt tg iter : Expr} {ifs : List Expr} {pos spos py : Pos} {wi : TI} {g : TG} {tt : TT} {te : TE} {i : Nat} {y : Str} (hc : X.calm = true) (hN : X.N.Nodup) (hi' : X.N[i]? = some y) (hy : X.env.scope.names.lookup y = some .local) (B : BlkN X scope N' src) (hi : PI X tg iter wi)
  (hg : ∀ s3 H3 C fp, PG (blk X scope N' s3 H3 C fp) tg g) (ht : ∀ s3 H3 C fp, PTs (blk X scope N' s3 H3 C fp) ifs tt) (he : ∀ s3 H3 C fp, PE (blk X scope N' s3 H3 C fp) elt te)
  (hsw : swapsWith (.ListComp elt [⟨tg, iter, ifs, 0⟩] scope pos) (some (.Name y py)) spos.line X.env = pure true := by rfl)
  (hnl : (scope.names.all fun y => decide (y.2 = .free -> ∀ z ∈ scope.names, z.1 = y.1 -> z.2 = .free)) = true := by decide +kernel)
  (hs : ∀ x, foldedSetIterable iter X.env x = pure x := by intro _; rfl) :
  PS X (.Assign [.Name y py] (.ListComp elt [⟨tg, iter, ifs, 0⟩] scope pos) spos) (tAsg (xp3 wi src g tt te) (zf8 i)) := by
 intro pins s σ H D I h
 have hnl' : ∀ x k, (x, k) ∈ scope.names -> k = .free -> ∀ k', (x, k') ∈ scope.names -> k' = .free := fun x k hm hk k' hm' => of_decide_eq_true (List.all_eq_true.mp hnl (x, k) hm) hk (x, k') hm' rfl
 have hclos : closureFor scope X.env = pure (clOf X.env scope.names) := zm6 fun y hy hf => I.ok.has y.1 (of_decide_eq_true (List.all_eq_true.mp B.frees y hy) hf)
 have hnames : ∀ y ∈ scope.names, y.2 = .local -> scope.names.lookup y.1 = some .local := fun y hy => of_decide_eq_true (List.all_eq_true.mp B.locs y hy)
 rw [exec_Assign_Name_used _ _ _ _ hsw]
 refine wpAny_bind (wpAny_standAt (wpAny_bind ?_))
 show wpAny _ X.A (do let _ ← comprehension (.ListComp elt [⟨tg, iter, ifs, 0⟩] scope pos) scope X.env _ (newList []) false (eval iter X.env) (some (assign (.Name y py) X.env))) _ _ s
 have h' : wi σ H fun J H2 => ∀ D', H2 D' = none -> zz8 J g tt te D' (sub src σ) (upd H2 D' (.lst [])) fun H' => D.nx (σ.set i (some (.ref D'))) H' := h
 refine wpAny_bind (wpAny_mono (wpAny_comprehension_free (use := some (assign (.Name y py) X.env)) (Q := fun _ s' => SP X pins D .next s') rfl hs hclos B.kind hnames
  (thn (hi pins s σ H _ I h') fun xv s₁ h₁ => thn h₁ fun itv s2 h2 => ?_)) (fun _ s' hq => wpAny_pure (wpAny_pure hq)) fun _ _ e => e)
 obtain ⟨it, fp, tn, J, H2, rfl, I2, T, h0, hf, hw⟩ := h2
 refine yb9 (RR := fun acc C => compPost (model X.prog X.w) X.A X.xe (some (assign (.Name y py) X.env)) (fun _ s' => SP X pins D .next s') acc C) (Q := fun D' H' => D.nx (σ.set i (some (.ref D'))) H') hc B hnl' T I2 h0 hf (fun a b c => hg a b c fp) (fun a b c => ht a b c fp) (fun a b c => he a b c fp) hw ?_
 intro D' C H' s' hCD hm hsb IX hCh hCL hCc hCs hCp q
 obtain ⟨m, hm⟩ := hm
 show wpAny _ X.A (assign (.Name y py) X.env (.ref D')) _ _ _
 refine wpAny_assign_Name ?_
 refine zw5 (v := .ref D') IX hN hi' (.inl hy) rfl (fun s'' I'' hsame => ?_) (.inr hy)
 obtain ⟨a, hs', ha⟩ := hsame
 have hCa : C ≠ a := by
  rintro rfl
  rcases ha with z | z
  ·exact hCL z
  ·exact hCc _ _ z rfl
 refine ⟨m, hm.sameBut hs' hCa, fun h'' sb => ⟨_, H', ?_, q⟩⟩
 exact I''.turned (t' := s''.toks) (fun b o hb e => (sb.2 b hb).trans e) hCh hCL (.inr hCs) hCc hCp
end
end L2
end
section
namespace L2
open PySem PySem.Spec PyProof.Rows
section
variable {X : Cx} {pins : List (Addr × Obj)} {σ : St} {H : Hp} {s : Shared} {a : Addr} {o : Obj} {u : HO}
theorem xk6 {P : Program} {w : World} {H : Hp} {h : Heap} {a : Addr} {u v : HO} (ok : HOk P w H h) (e : H a = some u) (nt : ∀ xs, u ≠ .tup xs) (no : ∀ y, u ≠ .own y) (new : ObjOk P w (upd H a v) h a v) : HOk P w (upd H a v) h := fun b z q => by
 by_cases hb : b = a
 ·subst hb; rw [zb1] at q; cases q; exact new
 ·rw [zb5 hb] at q
  refine (ok b z q).stay (fun c w' _ r => r) (fun c r => ?_) fun c xs r => ?_
  ·rw [zb5]; exact r
   rintro rfl; rw [e] at r; cases r; exact no _ rfl
  ·rw [zb5]; exact r
   rintro rfl; rw [e] at r; cases r; exact nt _ rfl
theorem Inv.swap {u v : HO} (I : Inv X pins σ H s) (e : H a = some u) (nt : ∀ xs, u ≠ .tup xs) (no : ∀ y, u ≠ .own y) (nb : ∀ ps, u ≠ .tbl ps) (hz : ∀ ob y, X.H₀ a ≠ some (.frz ob y)) (new : ObjOk X.prog X.w (upd H a v) s.heap a v) : Inv X pins σ (upd H a v) s := by
 have ne : ∀ b, H b = none -> b ≠ a := fun b n z => by subst z; rw [e] at n; cases n
 refine ⟨I.ok, I.os, I.bare, ⟨I.base.keep, I.base.slot, fun b ob q n hx => ?_, I.base.there, fun b xs q => ?_, fun b ob y q => ?_, fun b ps q => ?_⟩, I.loc, I.cell, ?_, fun x c h => ?_, fun p hp => ?_, xk6 I.hok e nt no new, I.len⟩
 ·have := I.base.free b ob q n hx
  rw [zb5 (ne b this)]; exact this
 ·have := I.base.tups b xs q
  rw [zb5]; exact this
  rintro rfl; rw [e] at this; cases this; exact nt _ rfl
 ·have := I.base.frzs b ob y q
  rw [zb5]; exact this
  rintro rfl; exact hz _ _ q
 ·obtain ⟨m, this⟩ := I.base.tbls b ps q
  refine ⟨m, ?_⟩
  rw [zb5]; exact this
  rintro rfl; rw [e] at this; cases this; exact nb _ rfl
 ·rw [zb5 (ne _ I.free)]; exact I.free
 ·rw [zb5 (ne _ (I.freeC x c h))]; exact I.freeC x c h
 ·obtain ⟨h1, h2, h3⟩ := I.pin p hp
  exact ⟨h1, by rw [zb5 (ne _ h2)]; exact h2, h3⟩
theorem Inv.unfrozen {kvs : List (Key × V)} (I : Inv X pins σ H s) (e : H a = some (.dK kvs)) : ∀ ob y, X.H₀ a ≠ some (.frz ob y) := fun ob y q => by
 have := I.base.frzs a ob y q
 rw [e] at this; cases this
theorem Inv.freeze {kvs : List (Key × V)} (I : Inv X pins σ H s) (e : H a = some (.dK kvs)) (ho : s.heap.get? a = some o) : Inv X pins σ (upd H a (.frz o (.dK kvs))) s :=
 I.swap e (fun _ h => nomatch h) (fun _ h => nomatch h) (fun _ h => nomatch h) (I.unfrozen e) ⟨ho, I.hok a _ e⟩
theorem Inv.thaw {kvs : List (Key × V)} (I : Inv X pins σ H s) (e : H a = some (.frz o (.dK kvs))) (hz : ∀ ob y, X.H₀ a ≠ some (.frz ob y)) : Inv X pins σ (upd H a (.dK kvs)) s :=
 I.swap e (fun _ h => nomatch h) (fun _ h => nomatch h) (fun _ h => nomatch h) hz (I.hok a _ e).2
end
def Itx (ok : Hp -> Prop) (xs : List V) : It := ⟨fun i H => ok H /\ i < xs.length, fun i H x H' => H' = H /\ xs[i]? = some x, fun i H => ok H /\ xs.length <= i⟩
def Frz (a : Addr) (o : Obj) (kvs : List (Key × V)) (H : Hp) : Prop := H a = some (.frz o (.dK kvs))
theorem KV.get {kvs : List (Key × V)} {vs : List (Key × Value)} (r : KV kvs vs) : ∀ {i : Nat} {k : Key} {x : Value}, vs[i]? = some (k, x) -> ∃ v, kvs[i]? = some (k, v) /\ RelV v x := by
 unfold KV at r
 induction r with
 | nil => intro i k x h; simp at h
 | @cons p q ps qs h t ih =>
  intro i k x hx
  cases i with
  | zero =>
   simp at hx
   subst hx
   obtain ⟨p1, p2⟩ := p
   obtain ⟨h1, h2⟩ := h
   have h1 : p1 = k := h1
   subst h1
   exact ⟨p2, by simp, h2⟩
  | succ i => simpa using ih (by simpa using hx)
theorem zw7 {P : Program} {w : World} {h : Heap} {a : Addr} {o : Obj} {kvs : List (Key × V)} (ho : h.get? a = some o) (d : ∃ vs, KV kvs vs /\ h.DictOf (zd0 P w) a vs) :
  ∃ vs ep, KV kvs vs /\ ∀ h' : Heap, h'.get? a = some o -> h'.DictAt (zd0 P w) a vs ep := by
 obtain ⟨vs, r, o', es, ep, e, q⟩ := d
 rw [ho] at e; cases e
 exact ⟨vs, ep, r, fun h' e' => ⟨o, es, e', q⟩⟩
theorem xg3 {P : Program} {w : World} {K : PySem.W.Frag} {tg : Expr} {o : Obj} {kvs : List (Key × V)} {vs : List (Key × Value)} {ep : Nat} (a it : Addr) (hne : a ≠ it) (r : KV kvs vs) (hd : ∀ h' : Heap, h'.get? a = some o -> h'.DictAt (zd0 P w) a vs ep) :
  Turn P w K tg (Itx (Frz a o kvs) (kvs.map fun kv => kV kv.1)) [it] it (fun i h => h.IsKeyIter it a i vs.length ep) where
 mem := by simp
 obj := fun i h st b hb => by
  have e : b = it := by simpa using hb
  subst e
  obtain ⟨o, e, c, d⟩ := st
  exact ⟨o, e, fun v z => by rw [d] at z; cases z⟩
 keep := fun i h h' st k => st.at fun o e => k it (by simp) o e
 item := by
  intro X hP hw hK hc i pins s σ H E I hf st hg
  subst hP hw hK
  obtain ⟨hz, hi⟩ := hg
  have ho := (I.hok a _ hz).1
  obtain ⟨f0, f1, f2, f3, f4, f5⟩ := hf it (by simp)
  have hl : i < vs.length := by rw [← r.length]; simpa using hi
  have W := Walks.dictKeys (prog := X.prog) (w := X.w) (knd := zd0 X.prog X.w) (A := X.A) (I.ok.hd hc) it a hne vs ep
  refine W.item i s _ _ hl ⟨st, hd _ ho⟩ fun v h' tk hv st' kk => ?_
  obtain ⟨k, x, hx, hk⟩ := hv
  have I1 : Inv X pins σ H { s with heap := h', toks := tk } := I.turned (fun b o hb e => kk b o (by simpa using hb) e) f0 f1 f3 f4 f5
  obtain ⟨o', e', c', d'⟩ := id st'.1
  obtain ⟨v', hv', _⟩ := r.get hx
  refine ⟨_, rfl, yw5 (s := { s with heap := h', toks := tk }) e' c' d' (by decide) ⟨kV k, H, I1, ?_, ⟨rfl, by rw [List.getElem?_map, hv']; rfl⟩, st'.1, fun b hb => (hf b hb).1⟩⟩
  rcases zf2 hk with ⟨n, t, rfl, rfl⟩ | ⟨n, t, rfl, rfl⟩
  ·exact ⟨t, rfl⟩
  ·exact ⟨t, rfl⟩
 done := by
  intro X hP hw hK hc i pins s σ H E I hf st hg
  subst hP hw hK
  obtain ⟨hz, hi⟩ := hg
  have ho := (I.hok a _ hz).1
  obtain ⟨f0, f1, f2, f3, f4, f5⟩ := hf it (by simp)
  have hl : vs.length <= i := by rw [← r.length]; simpa using hi
  exact wpAny_pyNext_dict_end (I.ok.hd hc) st (hd _ ho) (by simpa using hl) fun h' he' => ⟨rfl, I.turned (t' := s.toks) (fun b o hb e => he' b o hb e) f0 f1 f3 f4 f5⟩
 self := fun _ _ _ _ _ st h => wpAny_pyIter_keyiter st h
theorem xg8 {P : Program} {w : World} {K : PySem.W.Frag} {tg : Expr} {o : Obj} {kvs : List (Key × V)} {vs : List (Key × Value)} {ep : Nat} (a it : Addr) (hne : a ≠ it) (r : KV kvs vs) (hd : ∀ h' : Heap, h'.get? a = some o -> h'.DictAt (zd0 P w) a vs ep) :
  Turn P w K tg (Itx (Frz a o kvs) (kvs.map fun kv => kv.2)) [it] it (fun i h => h.IsValIter it a i vs.length ep) where
 mem := by simp
 obj := fun i h st b hb => by
  have e : b = it := by simpa using hb
  subst e
  obtain ⟨o, e, c, d⟩ := st
  exact ⟨o, e, fun v z => by rw [d] at z; cases z⟩
 keep := fun i h h' st k => st.at fun o e => k it (by simp) o e
 item := by
  intro X hP hw hK hc i pins s σ H E I hf st hg
  subst hP hw hK
  obtain ⟨hz, hi⟩ := hg
  have ho := (I.hok a _ hz).1
  obtain ⟨f0, f1, f2, f3, f4, f5⟩ := hf it (by simp)
  have hl : i < vs.length := by rw [← r.length]; simpa using hi
  have W := Walks.dictValues (prog := X.prog) (w := X.w) (knd := zd0 X.prog X.w) (A := X.A) (I.ok.hd hc) it a hne vs ep
  refine W.item i s _ _ hl ⟨st, hd _ ho⟩ fun v h' tk hv st' kk => ?_
  obtain ⟨k, hx⟩ := hv
  have I1 : Inv X pins σ H { s with heap := h', toks := tk } := I.turned (fun b o hb e => kk b o (by simpa using hb) e) f0 f1 f3 f4 f5
  obtain ⟨o', e', c', d'⟩ := id st'.1
  obtain ⟨v', hv', rv⟩ := r.get hx
  exact ⟨_, rfl, yw5 (s := { s with heap := h', toks := tk }) e' c' d' (by decide) ⟨v', H, I1, rv, ⟨rfl, by rw [List.getElem?_map, hv']; rfl⟩, st'.1, fun b hb => (hf b hb).1⟩⟩
 done := by
  intro X hP hw hK hc i pins s σ H E I hf st hg
  subst hP hw hK
  obtain ⟨hz, hi⟩ := hg
  have ho := (I.hok a _ hz).1
  obtain ⟨f0, f1, f2, f3, f4, f5⟩ := hf it (by simp)
  have hl : vs.length <= i := by rw [← r.length]; simpa using hi
  exact wpAny_pyNext_values_end (I.ok.hd hc) st (hd _ ho) (by simpa using hl) fun h' he' => ⟨rfl, I.turned (t' := s.toks) (fun b o hb e => he' b o hb e) f0 f1 f3 f4 f5⟩
 self := fun _ _ _ _ _ st h => wpAny_pyIter_valiter st h
section
variable {X : Cx} {tg : Expr}
def iDict (te : TE) : TI := fun σ H R => te σ H fun x H1 => ∃ a kvs, x = .ref a /\ H1 a = some (.dK kvs) /\ ∀ o, R (Itx (Frz a o kvs) (kvs.map fun kv => kV kv.1)) (upd H1 a (.frz o (.dK kvs)))
theorem yc9 {l : Expr} {te : TE} (hl : PE X l te) : PI X tg l (iDict te) := by
 intro pins s σ H R I h
 refine thn (hl pins s σ H _ I h) fun v s1 ⟨x, H1, I1, r1, q1⟩ => ?_
 obtain ⟨a, kvs, e, hq, q⟩ := q1
 subst e
 cases r1
 obtain ⟨hz, hsys, hd⟩ := yx2 I1.hok hq
 obtain ⟨o, ho⟩ : ∃ o, s1.heap.get? a = some o := by obtain ⟨vs, _, o, _, _, e, _⟩ := hd; exact ⟨o, e⟩
 obtain ⟨vs, ep, r, hat⟩ := zw7 ho hd
 refine wpAny_pyIter_dict hsys (hat _ ho) ?_
 have I2 := I1.freeze hq ho
 refine ⟨s1.heap.objs.size, [s1.heap.objs.size], _, _, _, rfl, I2.kept (t' := s1.toks) fun b o e => Heap.get?_push_of_some _ e, xg3 a _ (Nat.ne_of_lt (Heap.lt_size ho)) r hat, ⟨_, Heap.get?_push_size _ rfl, rfl, rfl⟩, fun b hb => ?_, q o⟩
 have e : b = s1.heap.objs.size := by simpa using hb
 subst e
 exact I2.fpOk (Nat.le_refl _) (I2.hok.fresh (Nat.le_refl _))
def iVals (te : TE) : TI := fun σ H R => te σ H fun x H1 => ∃ a kvs, x = .ref a /\ H1 a = some (.dK kvs) /\ ∀ o, R (Itx (Frz a o kvs) (kvs.map fun kv => kv.2)) (upd H1 a (.frz o (.dK kvs)))
theorem xw9 {l : Expr} {te : TE} {apos cpos : Pos} (hl : PE X l te) (base : attributeBase l "values" X.env (eval l X.env) = eval l X.env := by rfl)
  (few : ((backTo cpos (starEach [] X.env)).all (fun x => !x.1) && (backToKw cpos (keywordEach [] X.env)).all (fun x => x.1.isSome) && decide (([] : List Expr).length + ([] : List Keyword).length + (if ([] : List Keyword).isEmpty then 0 else 1) < 30)) = true := by rfl)
  (line : (apos.endLine == cpos.line) = true := by rfl) (trees : backTo cpos (starEach [] X.env) = [] := by rfl) : PI X tg (.Call (.Attribute l "values" apos) [] [] cpos) (iVals te) := by
 intro pins s σ H R I h
 refine wpAny_Call_method base few line PySem.F.plainAttrs_dict PySem.F.slot_dict_values PySem.F.type_dict_values (thn (hl pins s σ H _ I h) fun u s1 ⟨x, H1, I1, rx, a, kvs, ex, hq, q⟩ => ?_)
 subst ex
 obtain rfl : u = Value.ref a := rx
 obtain ⟨t1, t2, hsys⟩ := yc5 I1 (.inl ⟨kvs, .inl hq⟩)
 refine ⟨t1, t2, ?_⟩
 rw [trees]
 refine Calls.callWith_builtin rfl (PySem.evalArgs_none ?_)
 obtain ⟨hz, _, hd⟩ := yx2 I1.hok hq
 obtain ⟨o, ho⟩ : ∃ o, s1.heap.get? a = some o := by obtain ⟨vs, _, o, _, _, e, _⟩ := hd; exact ⟨o, e⟩
 obtain ⟨vs, ep, r, hat⟩ := zw7 ho hd
 refine call_meetsIn PySem.F.slot_dict_values t1 PySem.F.entry_dict_values (PySem.F.args_dict_values_1 _) (meets_dict_values (zd0 X.prog X.w) a hsys) ⟨⟨vs, (hat _ ho).dictOf⟩, ?_⟩
 have ho2 : (s1.heap.push { cls := .type "dict_values", data := .fields #[.ref a] }).get? a = some o := Heap.get?_push_of_some _ ho
 have I2 : Inv X pins σ H1 { s1 with heap := s1.heap.push { cls := .type "dict_values", data := .fields #[.ref a] } } := I1.kept (t' := s1.toks) fun b o e => Heap.get?_push_of_some _ e
 refine wpAny_pyIter_values (s := { s1 with heap := s1.heap.push { cls := .type "dict_values", data := .fields #[.ref a] } }) ⟨_, Heap.get?_push_size _ rfl, rfl, rfl⟩ (hat _ ho2) ?_
 have I3 := I2.freeze hq ho2
 refine ⟨_, [_], _, _, _, rfl, I3.kept (t' := s1.toks) fun b o e => Heap.get?_push_of_some _ e, xg8 a _ (Nat.ne_of_lt (Heap.lt_size ho2)) r hat, ⟨_, Heap.get?_push_size _ rfl, rfl, rfl⟩, fun b hb => ?_, q o⟩
 rw [List.mem_singleton.mp hb]
 exact I3.fpOk (Nat.le_refl _) (I3.hok.fresh (Nat.le_refl _))
def thawE (t : TE) : TE := fun σ H Q => ∃ a kvs, H a = some (.dK kvs) /\ t σ H fun v H' => ∃ o, H' a = some (.frz o (.dK kvs)) /\ Q v (upd H' a (.dK kvs))
theorem xc9 {e : Expr} {t : TE} (h : PE X e t) : PE X e (thawE t) := by
 intro pins s σ H Q I ⟨a, kvs, ha, q⟩
 have hz := I.unfrozen ha
 refine thn (h pins s σ H _ I q) fun u s1 ⟨x, H1, I1, r1, o, h1, q1⟩ => ⟨x, _, I1.thaw h1 hz, r1, q1⟩
def thawD (D : Ends) (a : Addr) (kvs : List (Key × V)) : Ends where
 nx := fun σ H => ∃ o, H a = some (.frz o (.dK kvs)) /\ D.nx σ (upd H a (.dK kvs))
 rt := fun v H => ∃ o, H a = some (.frz o (.dK kvs)) /\ D.rt v (upd H a (.dK kvs))
 bk := fun σ H => ∃ o, H a = some (.frz o (.dK kvs)) /\ D.bk σ (upd H a (.dK kvs))
 ct := fun σ H => ∃ o, H a = some (.frz o (.dK kvs)) /\ D.ct σ (upd H a (.dK kvs))
def thawS (t : TS) : TS := fun D σ H => ∃ a kvs, H a = some (.dK kvs) /\ t (thawD D a kvs) σ H
theorem xj4 {st : Stmt} {t : TS} (h : PS X st t) : PS X st (thawS t) := by
 intro pins s σ H D I ⟨a, kvs, ha, q⟩
 have hz := I.unfrozen ha
 refine thn (h pins s σ H _ I q) fun f s1 hf => ?_
 cases f with
 | next => obtain ⟨σ', H', I1, o, h1, q1⟩ := hf; exact ⟨σ', _, I1.thaw h1 hz, q1⟩
 | brk => obtain ⟨σ', H', I1, o, h1, q1⟩ := hf; exact ⟨σ', _, I1.thaw h1 hz, q1⟩
 | cont => obtain ⟨σ', H', I1, o, h1, q1⟩ := hf; exact ⟨σ', _, I1.thaw h1 hz, q1⟩
 | ret u => obtain ⟨v, σ', H', I1, r, o, h1, q1⟩ := hf; exact ⟨v, σ', _, I1.thaw h1 hz, r, q1⟩
end
def Ite (K : PySem.W.Frag) (a : Addr) : It :=
 ⟨fun i H => ∃ xs x, SqL K H a xs /\ xs[i]? = some x, fun i H x H' => ∃ p y, H p = none /\ x = .ref p /\ H' = upd H p (.tup [.int i, y]) /\ ∀ xs, SqL K H a xs -> xs[i]? = some y, fun i H => ∃ xs, SqL K H a xs /\ xs.length <= i⟩
theorem xh5 {P : Program} {w : World} {K : PySem.W.Frag} {es : List Expr} {k : Nat} {pos : Pos} (a e it : Addr) (hei : e ≠ it) : Turn P w K (.Tuple es k pos) (Ite K a) [e, it] e (fun i h => (∃ old, IsEnum h e it i old) /\ h.IsListIter it a i) where
 mem := by simp
 obj := fun i h st b hb => by
  obtain ⟨⟨old, he⟩, hi⟩ := st
  rcases List.mem_cons.mp hb with rfl | hb
  ·exact ⟨_, he, fun v z => by
    have z' : Data.fields _ = Data.cell v := z
    cases z'⟩
  ·have e : b = it := by simpa using hb
   subst e
   obtain ⟨o, e, c, d⟩ := hi
   exact ⟨o, e, fun v z => by rw [d] at z; cases z⟩
 keep := fun i h h' st kp => by
  obtain ⟨⟨old, he⟩, hi⟩ := st
  exact ⟨⟨old, kp e (by simp) _ he⟩, hi.at fun o x => kp it (by simp) o x⟩
 item := by
  intro X hP hw hK hc i pins s σ H E I hf st hg
  subst hP hw hK
  obtain ⟨xs, x, hq, hx⟩ := hg
  obtain ⟨⟨old, he⟩, hit⟩ := st
  obtain ⟨its, rv, p, hz⟩ := I.list hq
  obtain ⟨u, hu, ru⟩ := rv.get hx
  obtain ⟨f0, f1, f2, f3, f4, f5⟩ := hf e (by simp)
  obtain ⟨g0, g1, g2, g3, g4, g5⟩ := hf it (by simp)
  have helt : e < s.heap.objs.size := Heap.lt_size he
  have hilt : it < s.heap.objs.size := by obtain ⟨_, x, _⟩ := hit; exact Heap.lt_size x
  refine wpAny_pyNext_enum_item he hit p.isList (x := u) (by simpa using hu) hei fun h' ho hit' hT hsz kk => ?_
  refine ⟨_, rfl, wpAny_letOwnedTupleGo_enum (s := { s with heap := h', toks := s.toks + 1 }) ho fun h'' he'' hs'' => ?_⟩
  have hTe : s.heap.objs.size ≠ e := Nat.ne_of_gt helt
  have hTi : s.heap.objs.size ≠ it := Nat.ne_of_gt hilt
  have hfree : H s.heap.objs.size = none := I.hok.fresh (Nat.le_refl _)
  have keep : ∀ b o, b ≠ e -> b ≠ it -> s.heap.get? b = some o -> h''.get? b = some o := fun b o h1 h2 e => (hs''.2 b h1).trans (kk b o h1 h2 e)
  have nit : ∀ b u, H b = some u -> b ≠ e /\ b ≠ it := fun b u e' => ⟨fun z => (by rw [z, f0] at e'; cases e'), fun z => (by rw [z, g0] at e'; cases e')⟩
  have I0 : Inv X pins σ H { s with heap := h'', toks := s.toks + 1 } := by
   refine I.step (g' := s.gens) (d' := s.drawn) (ch := [e, it]) (fun b hb => ?_) (fun b o _ _ hc e _ => keep b o (fun z => hc (by simp [z])) (fun z => hc (by simp [z])) e) (fun b o _ _ hc e _ => ⟨o.slots, keep b o (fun z => hc (by simp [z])) (fun z => hc (by simp [z])) e⟩)
    (fun _ _ _ _ n => n) (fun b o hc e => ⟨o, keep b o (fun z => hc (by simp [z])) (fun z => hc (by simp [z])) e⟩) (fun _ _ e => e) (fun _ _ _ e => e) (fun b ps e => ⟨#[], by rw [e]; simp⟩) (fun m hm => ?_) (fun b u eq => ?_) I.bare
   ·rcases List.mem_cons.mp hb with rfl | hb
    ·exact ⟨f3, f1, f4, f5⟩
    ·have e : b = it := by simpa using hb
     subst e
     exact ⟨g3, g1, g4, g5⟩
   ·obtain ⟨o, es, ep, ho, r⟩ := hm
    exact ⟨o, es, ep, keep _ o (Ne.symm f1) (Ne.symm g1) ho, r⟩
   ·refine (I.hok b u eq).stay (fun c v hc q => keep c v ?_ ?_ q) (fun _ q => q) fun _ _ q => q
    ·rcases hc with z | z
     ·rw [z]; exact (nit b u eq).1
     ·exact (nit c _ z).1
    ·rcases hc with z | z
     ·rw [z]; exact (nit b u eq).2
     ·exact (nit c _ z).2
  have hT2 : h''.get? s.heap.objs.size = some { cls := .type "tuple", data := .seq #[.int i s.toks, u] } := (hs''.2 _ hTe).trans hT
  have I1 : Inv X pins σ (upd H s.heap.objs.size (.tup [.int i, x])) { s with heap := h'', toks := s.toks + 1 } := by
   have base := I0.base
   have hok : HOk X.prog X.w (upd H s.heap.objs.size (.tup [.int i, x])) h'' := by
    intro b z q
    by_cases hb : b = s.heap.objs.size
    ·subst hb; rw [zb1] at q; cases q
     refine ⟨⟨by show 2 <= sizeLine; decide, _, hT2, rfl⟩, [.int i s.toks, u], .cons ⟨_, rfl⟩ (.cons ru .nil), _, hT2, rfl, _, rfl⟩
    ·rw [zb5 hb] at q
     refine (I0.hok b z q).stay (fun c w' _ r => r) (fun c r => ?_) fun c xs r => ?_
     ·rw [zb5 (zb4 r hfree)]; exact r
     ·rw [zb5 (zb4 r hfree)]; exact r
   have old : ∀ b o', X.s₀.heap.get? b = some o' -> b ≠ s.heap.objs.size := fun b o' e => Nat.ne_of_lt (Nat.lt_of_lt_of_le (Heap.lt_size e) I.sz)
   refine ⟨I0.ok, I0.os, I0.bare, ⟨base.keep, base.slot, fun b ob q n hx => ?_, base.there, fun b ys q => ?_, fun b ob y q => ?_, fun b ps q => ?_⟩, I0.loc, I0.cell, ?_, fun y c h => ?_, fun p hp => ?_, hok, I0.len⟩
   ·rw [zb5 (old b ob q)]; exact base.free b ob q n hx
   ·have := base.tups b ys q
    rw [zb5 (zb4 this hfree)]; exact this
   ·have := base.frzs b ob y q
    rw [zb5 (zb4 this hfree)]; exact this
   ·obtain ⟨m, this⟩ := base.tbls b ps q
    exact ⟨m, by rw [zb5 (zb4 this hfree)]; exact this⟩
   ·rw [zb5 (Nat.ne_of_lt I.lt)]; exact I.free
   ·obtain ⟨v, q⟩ := I.cell y c h
    rw [zb5 (Nat.ne_of_lt q.lt)]; exact I.freeC y c h
   ·obtain ⟨h1, h2, h3⟩ := I0.pin p hp
    have := Heap.lt_size (I.pin p hp).1
    exact ⟨h1, by rw [zb5 (Nat.ne_of_lt this)]; exact h2, h3⟩
  have hit2 : h''.IsListIter it a (i + 1) := hit'.at fun o y => (hs''.2 it hei.symm).trans y
  have hen : IsEnum h'' e it ((i + 1 : Nat) : Int) u := by simpa using he''
  refine ⟨.ref s.heap.objs.size, _, I1, rfl, ⟨_, x, hfree, rfl, rfl, fun ys hy => by rw [I.list_inj hy hq]; exact hx⟩, ⟨⟨u, hen⟩, hit2⟩, fun b hb => ?_⟩
  rcases List.mem_cons.mp hb with rfl | hb
  ·rw [zb5 (Ne.symm hTe)]; exact f0
  ·have e : b = it := by simpa using hb
   subst e
   rw [zb5 (Ne.symm hTi)]; exact g0
 done := by
  intro X hP hw hK hc i pins s σ H E I hf st hg
  subst hP hw hK
  obtain ⟨xs, hq, hx⟩ := hg
  obtain ⟨⟨old, he⟩, hit⟩ := st
  obtain ⟨its, rv, p, hz⟩ := I.list hq
  obtain ⟨g0, g1, g2, g3, g4, g5⟩ := hf it (by simp)
  have hl := rv.length
  refine wpAny_pyNext_enum_end (I.ok.hd hc) he hit p.isList (Array.getElem?_eq_none (by simp; (clear g3 g2 hz; omega))) fun h' hx => ⟨rfl, I.turned (t' := s.toks) (fun b o hb e => hx b o hb e) g0 g1 g3 g4 g5⟩
 self := fun _ _ _ _ _ st h => by
  obtain ⟨⟨old, he⟩, _⟩ := st
  exact wpAny_pyIter_enum he h
def iEnum (K : PySem.W.Frag) (ta : TA) : TI := fun σ H R => ta σ H fun vs H1 => ∃ a xs, vs = [.ref a] /\ SqL K H1 a xs /\ R (Ite K a) H1
theorem boot_enumerate : bootBuiltins "enumerate" = some (.type "enumerate") := by first | exact PySem.boot_enumerate | rfl
theorem xj8 {X : Cx} {es : List Expr} {k : Nat} {tpos : Pos} {a : Expr} {ta : TA} {p pos : Pos} (hg : Gl X "enumerate") (hm : X.mg "enumerate" = none) (ha : PA X [a] ta) (hs : starEach [a] X.env = [(false, eval a X.env)] := by rfl) : PI X (.Tuple es k tpos) (.Call (.Name "enumerate" p) [a] [] pos) (iEnum X.K ta) := by
 intro pins s σ H R I h
 refine Call_ (zr2 I hg hm boot_enumerate (PyProof.Rows.callWith_type1 (thn (ha pos pins s σ H _ I h) fun us s1 ⟨vs, H1, I1, r1, q1⟩ => ?_) hs rfl))
 obtain ⟨l, xs, e, hq, q⟩ := q1
 subst e
 cases r1 with
 | cons r rr =>
  cases rr
  cases r
  obtain ⟨its, rv, pl, hz⟩ := I1.list hq
  refine call_enumerate_list pl.isList fun h' he hit hsz kk => ?_
  refine wpAny_pyIter_enum (s := { s1 with heap := h' }) he ?_
  have I2 : Inv X pins σ H1 { s1 with heap := h' } := I1.kept (t' := s1.toks) kk
  refine ⟨s1.heap.objs.size + 1, [s1.heap.objs.size + 1, s1.heap.objs.size], _, _, H1, rfl, I2, xh5 l _ _ (Nat.succ_ne_self _), ⟨⟨_, he⟩, hit⟩, fun b hb => ?_, q⟩
  rcases List.mem_cons.mp hb with rfl | hb
  ·exact I1.fpOk (Nat.le_succ _) (I1.hok.fresh (Nat.le_succ _))
  ·have e : b = s1.heap.objs.size := by simpa using hb
   subst e
   exact I1.fpOk (Nat.le_refl _) (I1.hok.fresh (Nat.le_refl _))
end L2
end
section
namespace L2
open PySem PySem.Spec PyProof.Rows
section
variable {prog : Program} {w : World} {A : Around} {E : Value -> Shared -> Prop} {s : Shared}
theorem xg1 {Q : Int -> Shared -> Prop} (h : Q 0xFCA86420 { s with toks := s.toks + 1 }) : wpAny (model prog w) A (pyHash .none) Q E s := by
 unfold pyHash pyHashByItsType
 have hv : [Value.none].any Value.onHeap = false := rfl
 refine wpAny_bind ?_
 rw [cRoomFor, if_neg (by rw [hv]; exact Bool.false_ne_true)]; refine wpAny_pure ?_
 refine wpAny_bind (wpAny_specialOf (typeIs_none s) PySem.F.slot_NoneType_hash.lookup ?_)
 show wpAny _ _ (if (some (Value.builtin "NoneType.__hash__") == some Value.none) = true then _ else _) Q E s
 rw [if_neg (by rw [beq_builtin_none]; exact Bool.false_ne_true)]
 refine wpAny_bind (wpAny_specialOf (typeIs_none s) PySem.F.slot_NoneType_hash.lookup ?_)
 show wpAny _ _ (callSpecialIfBoundUnlessNone? .none "__hash__" _ >>= _) Q E s
 refine wpAny_bind (wpAny_callSpecialIfBoundUnlessNone?_slot (typeIs_none s) PySem.F.slot_NoneType_hash
  (wpAny_call_entry PySem.F.slot_NoneType_hash (typeIs_none s) PySem.F.entry_NoneType_hash
   (show wpAny _ _ (do ret (← mkInt 0xFCA86420)) _ _ s from wpAny_ret_mkInt ?_) (PySem.F.args_NoneType_hash_1 _)))
 show wpAny _ _ (if (decide (-(2 : Int) ^ 63 <= 0xFCA86420) && decide ((0xFCA86420 : Int) < 2 ^ 63)) = true then _ else _) Q E _
 rw [if_pos (by decide)]
 exact wpAny_pure h
end
def ys5 : Option Key -> Value -> Bool
 | some k, v => zs5 k v
 | none, v => match v with | .none => true | _ => false
theorem zg5 {v : Value} (h : ys5 none v = true) : v = .none := by
 cases v <;> first | rfl | (simp [ys5] at h)
theorem yg2 {k : Key} : zs5 k .none = false := by cases k <;> rfl
def keyHN (w : World) : Option Key -> Int
 | some k => keyH w k
 | none => 0xFCA86420
def yd6 (prog : Program) (w : World) : PySem.KeyKind prog w (Option Key) where
 is := ys5
 hash := keyHN w
 inj := fun v a b ha hb => by
  cases a with
  | none =>
   have e := zg5 ha
   subst e
   cases b with
   | none => rfl
   | some b => have hb : zs5 b .none = true := hb; rw [yg2] at hb; cases hb
  | some a =>
   cases b with
   | none =>
    have e := zg5 hb
    subst e
    have ha : zs5 a .none = true := ha; rw [yg2] at ha; cases ha
   | some b => exact congrArg some ((zd0 prog w).inj v a b ha hb)
 byValue := fun k v h => by
  cases k with
  | none => rw [zg5 h]; rfl
  | some k => exact (zd0 prog w).byValue k v h
 pyHash := fun {A E s k v Q} hv h => by
  cases k with
  | none => rw [zg5 hv]; exact xg1 h
  | some k => exact (zd0 prog w).pyHash (k := k) hv h
 eqBool := fun {A E s a b u v Q} hu hv h => by
  cases a with
  | none =>
   have e := zg5 hu
   subst e
   cases b with
   | none =>
    have e := zg5 hv
    subst e
    have h : Q true s := by simpa using h
    exact SeqAt.EqAt.same _ _ _ _ _ h
   | some b =>
    have h : Q false s := by simpa using h
    rcases zf2 hv with ⟨i, t, rfl, rfl⟩ | ⟨x, t, rfl, rfl⟩
    ·exact SeqAt.EqAt.none_int _ _ _ _ _ _ h
    ·exact SeqAt.EqAt.none_str _ _ _ _ _ _ h
  | some a =>
   cases b with
   | none =>
    have e := zg5 hv
    subst e
    have h : Q false s := by simpa using h
    rcases zf2 hu with ⟨i, t, rfl, rfl⟩ | ⟨x, t, rfl, rfl⟩
    ·exact SeqAt.EqAt.int_none _ _ _ _ _ _ h
    ·exact SeqAt.EqAt.str_none _ _ _ _ _ _ h
   | some b => exact (zd0 prog w).eqBool (a := a) (b := b) hu hv (by simpa using h)
 «strs» := fun k x t v h => by
  cases k with
  | none => have := zg5 h; cases this
  | some k => exact (zd0 prog w).strs k x t v h
theorem xt4 {prog : Program} {w : World} {h : Heap} {a : Addr} {vs : List (Key × Value)} (d : h.DictOf (zd0 prog w) a vs) : h.MapOf (yd6 prog w) a (fun k => k.bind (valueAt vs)) := by
 obtain ⟨o, es, ep, e, c, dd, hk, hp, hn⟩ := d
 refine ⟨o, es, ep, e, c, dd, fun x hx => ?_, fun k => ?_⟩
 ·obtain ⟨k, h1, h2⟩ := hk x hx
  exact ⟨some k, h1, h2⟩
 ·cases k with
  | none =>
   show findBy ys5 es none = none
   unfold findBy
   rw [Array.find?_eq_none.mpr]
   ·rfl
   ·intro x hx
    obtain ⟨k, h1, _⟩ := hk x hx
    intro z
    rw [zg5 z] at h1
    have h1 : zs5 k .none = true := h1
    rw [yg2] at h1; cases h1
  | some k =>
   have q := (Heap.DictOf.mapOf (knd := zd0 prog w) ⟨o, es, ep, e, c, dd, hk, hp, hn⟩)
   obtain ⟨o', es', ep', e', _, dd', _, q⟩ := q
   rw [e] at e'; cases e'
   rw [dd] at dd'; cases dd'
   exact q k
section
variable {X : Cx} {o e f : Expr} {apos cpos : Pos} {td ty tx : TE}
def DAsk (H : Hp) (a : Addr) (y : V) (r : Option V) : Prop := ∃ kvs, Rd H a (.dK kvs) /\ ((y = .non /\ r = none) ∨ ∃ k, y = kV k /\ r = valV kvs k)
def tDAsk1 (td ty : TE) : TE := fun σ H Q => td σ H fun x H1 => ∃ a, x = .ref a /\ IsD H1 a /\ ty σ H1 fun y H2 => ∃ o, DAsk H2 a y o /\ Q (o.getD .non) H2
def tDAsk2 (td ty tx : TE) : TE := fun σ H Q => td σ H fun x H1 => ∃ a, x = .ref a /\ IsD H1 a /\ ty σ H1 fun y H2 => tx σ H2 fun z H3 => ∃ o, DAsk H3 a y o /\ Q (o.getD z) H3
theorem xp7 (hu : X.A.units + 1 < cLine) (ho : PE X o td) (he : PE X e ty) (m : M1 X o "get" apos e cpos) : PE X (.Call (.Attribute o "get" apos) [e] [] cpos) (tDAsk1 td ty) := by
 intro pins s σ H Q I h
 refine wpAny_Call_method m.base m.few m.line PySem.F.plainAttrs_dict PySem.F.slot_dict_get PySem.F.type_dict_get (thn (ho pins s σ H _ I h) fun u s1 ⟨x, H1, I1, rx, a, ex, d, q1⟩ => ?_)
 subst ex
 obtain rfl : u = Value.ref a := rx
 obtain ⟨t1, t2, _⟩ := yc5 I1 d
 refine ⟨t1, t2, ?_⟩
 rw [m.trees]
 refine Calls.callWith_builtin rfl (Calls.evalArgs_plain (Calls.spliced_cons (thn (he pins s1 σ H1 _ I1 q1) fun iv s2 ⟨y, H2, I2, ry, ov, g, q2⟩ => Calls.spliced_nil ?_)))
 obtain ⟨kvs, er, g⟩ := g
 rcases g with ⟨rfl, rfl⟩ | ⟨k, rfl, rfl⟩
 ·obtain rfl : iv = Value.none := ry
  obtain ⟨z, hd, vs, rel, dd⟩ := yf5 I2.hok er
  exact call_meetsIn PySem.F.slot_dict_get dd.typeIs PySem.F.entry_dict_get (PySem.F.args_dict_get_2 _ _) (meets_dict_get (yd6 X.prog X.w) a (k := none) rfl hd) ⟨_, xt4 dd, ⟨.non, H2, I2.tok _, rfl, q2⟩⟩
 ·exact xs8 hu I2 (.inl ⟨kvs, k, er, rfl, rfl⟩) ry fun w' s3 I3 rw' => ⟨_, H2, I3, rw', q2⟩
theorem xn2 (hu : X.A.units + 1 < cLine) (ho : PE X o td) (he : PE X e ty) (hf : PE X f tx) (m : M2 X o "get" apos e f cpos) : PE X (.Call (.Attribute o "get" apos) [e, f] [] cpos) (tDAsk2 td ty tx) := by
 intro pins s σ H Q I h
 refine wpAny_Call_method m.base m.few m.line PySem.F.plainAttrs_dict PySem.F.slot_dict_get PySem.F.type_dict_get (thn (ho pins s σ H _ I h) fun u s1 ⟨x, H1, I1, rx, a, ex, d, q1⟩ => ?_)
 subst ex
 obtain rfl : u = Value.ref a := rx
 obtain ⟨t1, t2, _⟩ := yc5 I1 d
 refine ⟨t1, t2, ?_⟩
 rw [m.trees]
 refine Calls.callWith_builtin rfl (Calls.evalArgs_plain (Calls.spliced_cons (thn (he pins s1 σ H1 _ I1 q1) fun iv s2 ⟨y, H2, I2, ry, q2⟩ =>
  Calls.spliced_cons (thn (hf pins s2 σ H2 _ I2 q2) fun fv s3 ⟨z, H3, I3, rz, ov, g, q3⟩ => Calls.spliced_nil ?_))))
 obtain ⟨kvs, er, g⟩ := g
 rcases g with ⟨rfl, rfl⟩ | ⟨k, rfl, rfl⟩
 ·obtain rfl : iv = Value.none := ry
  obtain ⟨_, hd, vs, rel, dd⟩ := yf5 I3.hok er
  exact call_meetsIn PySem.F.slot_dict_get dd.typeIs PySem.F.entry_dict_get (PySem.F.args_dict_get_3 _ _ _) (meets_dict_get_default (yd6 X.prog X.w) a (k := none) rfl hd fv) ⟨_, xt4 dd, ⟨z, H3, I3.tok _, rz, q3⟩⟩
 ·exact xs7 hu I3 (.inl ⟨kvs, k, er, rfl, rfl⟩) ry rz fun w' s4 I4 rw' => ⟨_, H3, I4, rw', q3⟩
def tDSet (td ty tx : TE) : TE := fun σ H Q => td σ H fun x H1 => ∃ a, x = .ref a /\ IsD H1 a /\ ty σ H1 fun y H2 => tx σ H2 fun z H3 => ∃ kvs k, H3 a = some (.dK kvs) /\ y = kV k /\ kvs.length < sizeLine /\
 (∀ v, valV kvs k = some v -> Q v H3) /\ (valV kvs k = none -> Q z (upd H3 a (.dK (putK kvs k z))))
theorem xx9 (ho : PE X o td) (he : PE X e ty) (hf : PE X f tx) (m : M2 X o "setdefault" apos e f cpos) : PE X (.Call (.Attribute o "setdefault" apos) [e, f] [] cpos) (tDSet td ty tx) := by
 intro pins s σ H Q I h
 refine wpAny_Call_method m.base m.few m.line PySem.F.plainAttrs_dict PySem.F.slot_dict_setdefault PySem.F.type_dict_setdefault (thn (ho pins s σ H _ I h) fun u s1 ⟨x, H1, I1, rx, a, ex, d, q1⟩ => ?_)
 subst ex
 obtain rfl : u = Value.ref a := rx
 obtain ⟨t1, t2, _⟩ := yc5 I1 d
 refine ⟨t1, t2, ?_⟩
 rw [m.trees]
 refine Calls.callWith_builtin rfl (Calls.evalArgs_plain (Calls.spliced_cons (thn (he pins s1 σ H1 _ I1 q1) fun iv s2 ⟨y, H2, I2, ry, q2⟩ =>
  Calls.spliced_cons (thn (hf pins s2 σ H2 _ I2 q2) fun fv s3 ⟨z, H3, I3, rz, kvs, k, er, ey, hl, g1, g2⟩ => Calls.spliced_nil ?_))))
 subst ey
 obtain ⟨hz, hd, vs, rel, dd⟩ := yx2 I3.hok er
 have rv := rel.val k
 refine call_meetsIn PySem.F.slot_dict_setdefault dd.typeIs PySem.F.entry_dict_setdefault (PySem.F.args_dict_setdefault_3 _ _ _) (kt_meets_setdefault (zd0 X.prog X.w) a (yf6 ry) hd fv) ⟨vs, dd, by rw [← rel.length]; exact hz, fun v hv => ?_, fun hv h' dd' hs => ?_⟩
 ·rw [hv] at rv
  cases q : valV kvs k with
  | none => rw [q] at rv; exact False.elim rv
  | some v' => rw [q] at rv; exact ⟨v', H3, I3.tok _, rv, g1 v' q⟩
 ·rw [hv] at rv
  cases q : valV kvs k with
  | some v' => rw [q] at rv; exact False.elim rv
  | none =>
   have he : ∃ q, h'.get? a = some q := let ⟨q, _, _, hq, _⟩ := dd'; ⟨q, hq⟩
   have hl2 : (putK kvs k z).length <= sizeLine := by have := zg8 kvs k z; (clear he hz g2; omega)
   exact ⟨z, _, zv8 I3 (by rw [er]; exact True.intro) hs he (yq9 hl2 hd (rel.put k rz) dd'), rz, g2 q⟩
end
section
variable {X : Cx}
theorem wb3 {xs : List V} : ∀ {us : List Value}, xs.length = us.length -> (∀ (i : Nat) x u, xs[i]? = some x -> us[i]? = some u -> RelV x u) -> Vals xs us := by
 induction xs with
 | nil => intro us hl h; cases us with
  | nil => exact .nil
  | cons _ _ => simp at hl
 | cons x xs ih => intro us hl h; cases us with
  | nil => simp at hl
  | cons u us => exact .cons (h 0 x u rfl rfl) (ih (by simpa using hl) fun i x u h1 h2 => h (i + 1) x u (by simpa using h1) (by simpa using h2))
theorem yb0 (hc : X.calm = true) : CallR X (.type "list") (fun xs H Q => ∃ p kvs, xs = [.ref p] /\ Rd H p (.dK kvs) /\ ∀ l, H l = none -> Q (.ref l) (upd H l (.lst (kvs.map fun kv => kV kv.1)))) := by
 intro pins s σ H xs us Q I r h
 obtain ⟨p, kvs, rfl, er, q⟩ := h
 obtain ⟨u, rfl, rx⟩ := zx1 r
 cases rx
 obtain ⟨hz, hsys, hd⟩ := yf5 I.hok er
 obtain ⟨o, ho⟩ : ∃ o, s.heap.get? p = some o := by obtain ⟨vs, _, o, _, _, e, _⟩ := hd; exact ⟨o, e⟩
 obtain ⟨vs, ep, rel, hat⟩ := zw7 ho hd
 have hlen := rel.length
 refine PySem.W.kdl_call (PySem.W.kdl_dict (knd := zd0 X.prog X.w) (kvs := vs) (ep := ep) (d := p) hsys) (I.ok.hd hc) (hat _ ho) (by (clear hd; omega)) fun h' tk acc c' kp e hacc => ?_
 refine ⟨.ref s.heap.objs.size, _, I.laid (t' := tk) kp (Nat.le_refl _) (show ObjOk X.prog X.w _ h' _ (.lst (kvs.map fun kv => kV kv.1)) from ⟨by rw [lqm]; exact hz, acc.toList, c', ?_, by simpa using e⟩), rfl, q _ (I.hok.fresh (Nat.le_refl _))⟩
 refine wb3 (by have h1 := hacc.1; have h2 : acc.toList.length = acc.size := Array.length_toList; rw [lqm]; (clear hd hz; omega)) fun i x u h1 h2 => ?_
 obtain ⟨k, y, hy, hk⟩ := hacc.2 i u (by rw [← Array.getElem?_toList]; exact h2)
 obtain ⟨v', hv', _⟩ := rel.get hy
 rw [List.getElem?_map, hv'] at h1
 cases h1
 rcases zf2 hk with ⟨n, t, rfl, rfl⟩ | ⟨n, t, rfl, rfl⟩
 ·exact ⟨t, rfl⟩
 ·exact ⟨t, rfl⟩
theorem zx4 {prog : Program} {w : World} {A : Around} {bs : List Bool} {its : List Value} (r : Vals (bs.map V.bl) its) : TruthOf prog w A (fun i v => its.toArray[i]? = some v) (fun i => bs.getD i false) := by
 intro i v s Q E hv hq
 have hv : its[i]? = some v := by simpa using hv
 have hl := r.length
 rw [lqm] at hl
 obtain ⟨hi, _⟩ := List.getElem?_eq_some_iff.mp hv
 have hb : bs[i]? = some bs[i] := List.getElem?_eq_getElem (by omega)
 obtain ⟨u, hu, ru⟩ := r.get (i := i) (x := V.bl bs[i]) (by rw [List.getElem?_map, hb]; rfl)
 rw [hv] at hu
 cases hu
 obtain rfl : v = Value.bool bs[i] := ru
 have e : bs.getD i false = bs[i] := by rw [List.getD_eq_getElem?_getD, hb]; rfl
 have hq : Q (bs.getD i false) s := hq
 rw [e] at hq
 exact wpAny_truthy_bool hq
theorem xb9 (bs : List Bool) : (List.range bs.length).any (fun i => bs.getD i false) = bs.any id := by
 rw [Bool.eq_iff_iff]
 simp only [List.any_eq_true, List.mem_range]
 constructor
 ·rintro ⟨i, hi, h⟩
  refine ⟨bs[i], List.getElem_mem hi, ?_⟩
  rw [List.getD_eq_getElem?_getD, List.getElem?_eq_getElem hi] at h
  exact h
 ·rintro ⟨b, hb, h⟩
  obtain ⟨i, hi, e⟩ := List.getElem_of_mem hb
  refine ⟨i, hi, ?_⟩
  rw [List.getD_eq_getElem?_getD, List.getElem?_eq_getElem hi, e]
  exact h
theorem xg2 (bs : List Bool) : (List.range bs.length).all (fun i => bs.getD i false) = bs.all id := by
 rw [Bool.eq_iff_iff]
 simp only [List.all_eq_true, List.mem_range]
 constructor
 ·intro h b hb
  obtain ⟨i, hi, e⟩ := List.getElem_of_mem hb
  have := h i hi
  rw [List.getD_eq_getElem?_getD, List.getElem?_eq_getElem hi, e] at this
  exact this
 ·intro h i hi
  rw [List.getD_eq_getElem?_getD, List.getElem?_eq_getElem hi]
  exact h _ (List.getElem_mem hi)
theorem xr0 (hc : X.calm = true) : CallR X (.builtin "any") (fun xs H Q => ∃ (p : Addr) (bs : List Bool), xs = [.ref p] /\ SqL X.K H p (bs.map V.bl) /\ Q (.bl (bs.any id)) H) := by
 intro pins s σ H xs us Q I r h
 obtain ⟨p, bs, rfl, hq, q⟩ := h
 obtain ⟨u, rfl, rx⟩ := zx1 r
 cases rx
 obtain ⟨its, rv, pl, hz⟩ := I.list hq
 have hl := rv.length
 rw [lqm] at hl
 obtain ⟨o, ho, _⟩ := id pl.isList
 refine call_any_walk (wpAny_pyIter_list pl.isList ?_)
 have hne : p ≠ s.heap.objs.size := Nat.ne_of_lt (Heap.lt_size ho)
 have I1 : Inv X pins σ H { s with heap := s.heap.push { cls := .type "list_iterator", data := .fields #[.ref p, .int 0 0] } } := I.kept (t' := s.toks) fun b o e => Heap.get?_push_of_some _ e
 refine ⟨_, _, _, _, _, _, _, rfl, Walks.list (A := X.A.in1) (I.ok.hd hc) _ p hne its.toArray, ⟨⟨_, Heap.get?_push_size _ rfl, rfl, rfl⟩, pl.isList.at fun o e => Heap.get?_push_of_some _ e⟩, zx4 rv, fun h' tk kk => ?_⟩
 rw [List.size_toArray, ← hl, xb9]
 refine ⟨.bl _, H, I1.turned (t' := tk) (fun b o hb e => kk b o (by simpa using hb) e) (I.hok.fresh (Nat.le_refl _)) (Nat.ne_of_gt I.lt) (.inr I.sz) (fun x c e z => ?_) (fun p hp z => ?_), rfl, q⟩
 ·obtain ⟨v, q⟩ := I.cell x c e
  exact absurd q.lt (by rw [z]; exact Nat.lt_irrefl _)
 ·exact absurd (Heap.lt_size (I.pin p hp).1) (by rw [z]; exact Nat.lt_irrefl _)
theorem xp4 (hc : X.calm = true) : CallR X (.builtin "all") (fun xs H Q => ∃ (p : Addr) (bs : List Bool), xs = [.ref p] /\ SqL X.K H p (bs.map V.bl) /\ Q (.bl (bs.all id)) H) := by
 intro pins s σ H xs us Q I r h
 obtain ⟨p, bs, rfl, hq, q⟩ := h
 obtain ⟨u, rfl, rx⟩ := zx1 r
 cases rx
 obtain ⟨its, rv, pl, hz⟩ := I.list hq
 have hl := rv.length
 rw [lqm] at hl
 obtain ⟨o, ho, _⟩ := id pl.isList
 refine call_all_walk (wpAny_pyIter_list pl.isList ?_)
 have hne : p ≠ s.heap.objs.size := Nat.ne_of_lt (Heap.lt_size ho)
 have I1 : Inv X pins σ H { s with heap := s.heap.push { cls := .type "list_iterator", data := .fields #[.ref p, .int 0 0] } } := I.kept (t' := s.toks) fun b o e => Heap.get?_push_of_some _ e
 refine ⟨_, _, _, _, _, _, _, rfl, Walks.list (A := X.A.in1) (I.ok.hd hc) _ p hne its.toArray, ⟨⟨_, Heap.get?_push_size _ rfl, rfl, rfl⟩, pl.isList.at fun o e => Heap.get?_push_of_some _ e⟩, zx4 rv, fun h' tk kk => ?_⟩
 rw [List.size_toArray, ← hl, xg2]
 refine ⟨.bl _, H, I1.turned (t' := tk) (fun b o hb e => kk b o (by simpa using hb) e) (I.hok.fresh (Nat.le_refl _)) (Nat.ne_of_gt I.lt) (.inr I.sz) (fun x c e z => ?_) (fun p hp z => ?_), rfl, q⟩
 ·obtain ⟨v, q⟩ := I.cell x c e
  exact absurd q.lt (by rw [z]; exact Nat.lt_irrefl _)
 ·exact absurd (Heap.lt_size (I.pin p hp).1) (by rw [z]; exact Nat.lt_irrefl _)
theorem wb2 {ss : List Str} {its : List Value} (r : Vals (ss.map V.str) its) : StrsAre its ss := by
 induction ss generalizing its with
 | nil => cases r; exact .nil
 | cons x ss ih =>
  cases r with
  | cons h t => obtain ⟨tk, rfl⟩ := h; exact .cons _ _ (ih t)
theorem xx4 {ss : List Str} {its : List Value} (r : StrsAre its ss) : Vals (ss.map V.str) its := by
 induction r with
 | nil => exact .nil
 | cons _ _ _ ih => exact .cons ⟨_, rfl⟩ ih
theorem zk0 : CallR X (.builtin "sorted") (fun xs H Q => ∃ (p : Addr) (ss : List Str), xs = [.ref p] /\ SqL X.K H p (ss.map V.str) /\ ss.length < 64 /\ ∀ (l : Addr) (ss' : List Str), H l = none -> ss'.Perm ss -> sortedS ss' = true -> Q (.ref l) (upd H l (.lst (ss'.map V.str)))) := by
 intro pins s σ H xs us Q I r h
 obtain ⟨p, ss, rfl, hq, h64, q⟩ := h
 obtain ⟨u, rfl, rx⟩ := zx1 r
 cases rx
 obtain ⟨its, rv, pl, hz⟩ := I.list hq
 have hl := rv.length
 rw [lqm] at hl
 refine sorted_strs pl.isList (wb2 rv) (by (clear hz; omega)) fun out ss' h1 h2 h3 => ?_
 obtain ⟨e, he⟩ := sortedAll_at s.heap its out
 refine ⟨.ref (s.heap.objs.size + 1), _, I.laid (t' := s.toks) (fun b o e => sortedAll_old e) (Nat.le_succ _) (show ObjOk X.prog X.w _ _ _ (.lst (ss'.map V.str)) from ⟨?_, out.toList, e, xx4 h1, by simpa [seqObj] using he⟩), rfl, q _ _ (I.hok.fresh (Nat.le_succ _)) h2 h3⟩
 rw [lqm, h2.length_eq]
 rw [lqm] at hz
 exact hz
def rIsi (K : PySem.W.Frag) : List V -> Hp -> VK -> Prop := fun xs H Q => ∃ x T t b, xs = [x, .ty T] /\ TyOf K H x t /\ PySem.W.kitOne K t (.type T) = some b /\ Q (.bl b) H
theorem zk4 : CallR X (.builtin "isinstance") (rIsi X.K) := by
 intro pins s σ H xs us Q I r h
 obtain ⟨x, T, t, b, rfl, ty, hk, q⟩ := h
 cases r with
 | cons r1 rr =>
  cases rr with
  | cons r2 rr =>
   cases rr
   cases (show _ = Value.type T from r2)
   exact xd0 I r1 ty hk fun tk => ⟨.bl b, H, I.tok _, rfl, q⟩
end
end L2
end
section
namespace L2
open PySem PySem.Spec PyProof.Rows
theorem yg5 {prog : Program} {w : World} {A : Around} {R : Result -> Shared -> Prop} {s : Shared} {kx vx target iter : Expr} {ifs : List Expr} {scope : Scope} {pos : Pos} {it : Value} {DD : Addr} {env : Env} (I : Nat -> Shared -> Prop)
  (turn : ∀ n s, I n s -> wpAny (model prog w) A (pyNext it) (fun r s₁ => match r with
   | none => R (.ok .next) s₁
   | some v => wpAny (model prog w) A (letOwnedTupleGo target it v) (fun _ s₁ => wpAny (model prog w) A (assign target env v) (fun _ s₂ =>
     wpAny (model prog w) A (forIn ifs true fun c r => if r = true then do let ok ← isTrue c env (eval c env); pure (ForInStep.yield ok) else pure (ForInStep.yield r)) (fun ok s₃ =>
      if ok = true then wpAny (model prog w) A (eval kx env) (fun kv s₄ => wpAny (model prog w) A (eval vx env) (fun vv s₅ =>
       wpAny (model prog w) A (dictSet DD kv vv) (fun _ s₆ => ∃ m, m < n /\ I m s₆) (fun _ _ => False) s₅) (fun _ _ => False) s₄) (fun _ _ => False) s₃
      else ∃ m, m < n /\ I m s₃) (fun _ _ => False) s₂) (fun _ _ => False) s₁) (fun _ _ => False) s₁) (fun _ _ => False) s)
  (n : Nat) (h : I n s) :
  codeAny (model prog w) A (.compLoop (.DictComp kx vx [⟨target, iter, ifs, 0⟩] scope pos) 0 it (.ref DD) env) R s := by
 refine codeAny_loop rfl I (fun n s hI => ?_) n h
 show wpAny _ A ((compTurn (.DictComp kx vx [⟨target, iter, ifs, 0⟩] scope pos) 0 it (.ref DD) env).onRaise (fun x => do noteFrame x env; theTreesLotGoes x)) _ _ s
 refine wpAny_noted ?_
 rw [compTurn_dict]
 refine wpAny_bind (wpAny_standAt (wpAny_bind (wpAny_mono (turn n s hI) (fun r s₁ h₁ => ?_) fun _ _ h' => h'.elim)))
 cases r with
 | none => exact wpAny_pure h₁
 | some v =>
  refine wpAny_bind (wpAny_mono h₁ (fun _ s₁ h₁ => ?_) fun _ _ h' => h'.elim)
  refine wpAny_bind (wpAny_mono h₁ (fun _ s₂ h₂ => wpAny_bind (wpAny_mono h₂ (fun ok s₃ h₃ => ?_) fun _ _ h' => h'.elim)) fun _ _ h' => h'.elim)
  cases ok with
  | false => exact wpAny_pure ⟨rfl, h₃⟩
  | true =>
   exact wpAny_bind (wpAny_bind (wpAny_mono h₃ (fun kv s₄ h₄ => wpAny_bind (wpAny_holding (wpAny_mono h₄ (fun vv s₅ h₅ => wpAny_bind (wpAny_standAt (wpAny_holding (wpAny_mono h₅ (fun _ s₆ h₆ => wpAny_pure ⟨rfl, h₆⟩) fun _ _ h' => h'.elim)))) fun _ _ h' => h'.elim))) fun _ _ h' => h'.elim))
def xj7 (J : It) (g : TG) (tt : TT) (tk te : TE) (D : Addr) (σ0 : St) (H0 : Hp) (Q : Hp -> Prop) : Prop :=
 ∃ W : Nat -> Nat -> St -> Hp -> Prop, (∃ m, W 0 m σ0 H0) /\ ∀ i m σ H, W i m σ H ->
 (J.stop i H /\ Q H) ∨ (J.go i H /\ ∃ N : St -> Hp -> Prop, (∀ σ' H', N σ' H' -> ∃ m', m' < m /\ W (i + 1) m' σ' H') /\ ∀ x H', J.yld i H x H' -> g x σ H' fun σ2 H2 => tt σ2 H2 fun b H3 =>
  if b = true then tk σ2 H3 fun kx H4 => te σ2 H4 fun v H5 => ∃ kvs k, kx = kV k /\ H5 D = some (.dK kvs) /\ kvs.length < sizeLine /\ N σ2 (upd H5 D (.dK (putK kvs k v))) else N σ2 H3)
section
variable {X : Cx} {scope : Scope} {N' : List Str} {src : List (Option Nat)} {pins : List (Addr × Obj)} {σ : St} {H2 : Hp} {s2 : Shared}
theorem yp4 {kx vx tg iter : Expr} {ifs : List Expr} {pos : Pos} {it : Addr} {fp : List Addr} {tn : Nat -> Heap -> Prop} {J : It} {g : TG} {tt : TT} {tkx te : TE} {Q : Addr -> Hp -> Prop}
  {RR : Value -> Addr -> Result -> Shared -> Prop} {E : Value -> Shared -> Prop} (hc : X.calm = true)
  (B : BlkN X scope N' src) (hnl : ∀ x k, (x, k) ∈ scope.names -> k = .free -> ∀ k', (x, k') ∈ scope.names -> k' = .free) (T : Turn X.prog X.w X.K tg J fp it tn) (I : Inv X pins σ H2 s2) (h0 : tn 0 s2.heap) (hf : ∀ b ∈ fp, FpOk X pins H2 b)
  (hg : ∀ s3 H3 C, PG (blk X scope N' s3 H3 C fp) tg g) (ht : ∀ s3 H3 C, PTs (blk X scope N' s3 H3 C fp) ifs tt) (hk : ∀ s3 H3 C, PE (blk X scope N' s3 H3 C fp) kx tkx) (he : ∀ s3 H3 C, PE (blk X scope N' s3 H3 C fp) vx te)
  (hw : ∀ D, H2 D = none -> xj7 J g tt tkx te D (sub src σ) (upd H2 D (.dK [])) (Q D))
  (hQ : ∀ D C H' s', C ≠ D -> (∃ m, s'.heap.Ns C m) -> (∀ h'' , Heap.SameBut C s'.heap h'' -> Inv X pins σ H' { s' with heap := h'' }) -> Inv X pins σ H' s' -> H' C = none -> C ≠ X.env.locals -> (∀ x c, X.env.cells.lookup x = some c -> c ≠ C) -> X.s₀.heap.objs.size <= C -> (∀ p ∈ X.pn ++ pins, p.1 ≠ C) -> Q D H' -> RR (.ref D) C (.ok .next) s') :
  wpAny (model X.prog X.w) X.A (newDict) (fun acc s₃ => wpAny (model X.prog X.w) X.A (newFunctionEnv scope X.env.globals (clOf X.env scope.names) [] X.env.qual none .none (some X.env)) (fun cenv s₄ =>
   codeAny (model X.prog X.w) X.A (.compStart (.DictComp kx vx [⟨tg, iter, ifs, 0⟩] scope pos) 0 (.ref it) acc { cenv with scope := relabel scope X.env }) (RR acc cenv.locals) s₄) E s₃) E s2 := by
 have hcell : ∀ y ∈ scope.names, y.2 ≠ .cell := fun y hy => of_decide_eq_true (List.all_eq_true.mp B.nocell y hy)
 refine wpAny_newObj_type (wpAny_newFunctionEnv hcell (by intro y hy; simp at hy) (fun h₁ hns₁ hsb₁ => ?_) B.kind)
 dsimp only at hns₁ hsb₁ ⊢
 have hDn : H2 s2.heap.objs.size = none := I.hok.fresh (Nat.le_refl _)
 have I3 : Inv X pins σ (upd H2 s2.heap.objs.size (.dK [])) { s2 with heap := s2.heap.push { cls := .type "dict", data := .dict #[] } } :=
  I.laid (t' := s2.toks) (fun b o e => Heap.get?_push_of_some _ e) (Nat.le_refl _) (yg0 s2.heap I.big)
 generalize hH3 : (s2.heap.push { cls := .type "dict", data := .dict #[] }) = hp3 at hns₁ hsb₁ I3 ⊢
 have hsz3 : hp3.objs.size = s2.heap.objs.size + 1 := by rw [← hH3, Heap.size_push]
 have keep23 : ∀ b o, s2.heap.get? b = some o -> hp3.get? b = some o := fun b o e => by rw [← hH3]; exact Heap.get?_push_of_some _ e
 have keep34 : ∀ b o, hp3.get? b = some o -> h₁.get? b = some o := fun b o e => hsb₁.extBut b o (Nat.ne_of_lt (Heap.lt_size e)) (Heap.get?_push_of_some _ e)
 have hDlt : s2.heap.objs.size < hp3.objs.size := by rw [hsz3]; exact Nat.lt_succ_self _
 have hf3 : ∀ b ∈ fp, FpOk X pins (upd H2 s2.heap.objs.size (.dK [])) b := fun b hb => by
  obtain ⟨o, e, _⟩ := T.obj _ _ h0 b hb
  refine ⟨?_, (hf b hb).2⟩
  rw [zb5 (Nat.ne_of_lt (Heap.lt_size e))]
  exact (hf b hb).1
 have hlt3 : ∀ b ∈ fp, b < hp3.objs.size := fun b hb => by
  obtain ⟨o, e, _⟩ := T.obj _ _ h0 b hb
  exact Nat.lt_trans (Heap.lt_size e) hDlt
 have hIb := yk6 (fp := fp) (C := hp3.objs.size) (s4 := { s2 with heap := h₁, toks := s2.toks + ([] : List (Str × Value)).length }) B I3 hf3 hlt3 hnl rfl hns₁ keep34 rfl rfl
 have h04 : tn 0 h₁ := T.keep _ _ _ h0 fun b hb o e => keep34 b o (keep23 b o e)
 obtain ⟨W, ⟨m0, w0⟩, turn⟩ := hw s2.heap.objs.size hDn
 have frB : ∀ {H' : Hp}, (∀ b ∈ fp, H' b = none) -> ∀ b ∈ fp, FpOk (blk X scope N' { s2 with heap := hp3 } (upd H2 s2.heap.objs.size (.dK [])) hp3.objs.size fp) [] H' b := fun hn b hb => by
  refine ⟨hn b hb, Nat.ne_of_lt (hlt3 b hb), ?_, .inl hb, fun x c h => (hf b hb).2.2.2.2.1 x c (B.back I.ok h).1, fun p hp => absurd (show p ∈ ([] : List (Addr × Obj)) from hp) (by simp)⟩
  intro z
  rcases List.mem_cons.mp (I3.stkSub b z) with y | y
  ·exact (hf b hb).2.1 y
  ·exact (hf b hb).2.2.1 y
 have fin : ∀ (s' : Shared) (σ' : St) (H' : Hp), Inv (blk X scope N' { s2 with heap := hp3 } (upd H2 s2.heap.objs.size (.dK [])) hp3.objs.size fp) [] σ' H' s' -> Q s2.heap.objs.size H' -> RR (.ref s2.heap.objs.size) hp3.objs.size (.ok .next) s' := fun s' σ' H' J' q => by
  obtain ⟨hh, gg, dd, tt', os'⟩ := s'
  have eos : os' = s2.os := J'.os
  subst eos
  have IX : Inv X pins σ H' { ({ s2 with heap := hp3 } : Shared) with heap := hh, gens := gg, drawn := dd, toks := tt' } := Inv.call (s := { s2 with heap := hp3 }) I3 (h' := hh) (g' := gg) (d' := dd) (t' := tt') (ch := fp) J'.base J'.hok J'.bare fun b hb => ⟨(hf b hb).2.2.2.1, (hf b hb).2.1, (hf b hb).2.2.2.2.1, (hf b hb).2.2.2.2.2⟩
  have hCs : s2.heap.objs.size <= hp3.objs.size := Nat.le_of_lt hDlt
  have hCL : hp3.objs.size ≠ X.env.locals := Nat.ne_of_gt I3.lt
  have hCc : ∀ x c, X.env.cells.lookup x = some c -> c ≠ hp3.objs.size := fun x c e z => by
   obtain ⟨v, q⟩ := I3.cell x c e
   exact absurd (show c < hp3.objs.size from q.lt) (by rw [z]; exact Nat.lt_irrefl _)
  have hCp : ∀ p ∈ X.pn ++ pins, p.1 ≠ hp3.objs.size := fun p hp z => by
   have := Heap.lt_size (I3.pin p hp).1
   exact absurd (show p.1 < hp3.objs.size from this) (by rw [z]; exact Nat.lt_irrefl _)
  have hCh : H' hp3.objs.size = none := J'.free
  obtain ⟨m, hm, _⟩ := J'.loc
  refine hQ _ _ H' _ (Nat.ne_of_gt hDlt) ⟨m, hm⟩ (fun h'' sb => ?_) IX hCh hCL hCc (Nat.le_trans I3.sz (Nat.le_refl _)) hCp q
  exact IX.turned (t' := tt') (fun b o hb e => (sb.2 b hb).trans e) hCh hCL (.inr (Nat.le_trans I3.sz (Nat.le_refl _))) hCc hCp
 have loop : ∀ s₃ : Shared, s₃ = { s2 with heap := h₁, toks := s2.toks + ([] : List (Str × Value)).length } ->
   codeAny (model X.prog X.w) X.A (.compLoop (.DictComp kx vx [⟨tg, iter, ifs, 0⟩] scope pos) 0 (.ref it) (.ref s2.heap.objs.size) (compEnvC scope (clOf X.env scope.names) hp3.objs.size X.env))
    (RR (.ref s2.heap.objs.size) hp3.objs.size) s₃ := by
  rintro s₃ rfl
  refine yg5 (fun n s' => ∃ i σ' H', Inv (blk X scope N' { s2 with heap := hp3 } (upd H2 s2.heap.objs.size (.dK [])) hp3.objs.size fp) [] σ' H' s' /\ tn i s'.heap /\ (∀ b ∈ fp, H' b = none) /\ W i n σ' H') ?_ m0 ⟨0, _, _, hIb, h04, fun b hb => (hf3 b hb).1, w0⟩
  rintro n s5 ⟨i, σ5, H5, I5, st5, fr5, w5⟩
  rcases turn i n σ5 H5 w5 with ⟨stop, qn⟩ | ⟨go, Nx, hN, step⟩
  ·refine thn (T.done (blk X scope N' { s2 with heap := hp3 } (upd H2 s2.heap.objs.size (.dK [])) hp3.objs.size fp) rfl rfl rfl hc i [] s5 σ5 H5 _ I5 (frB fr5) st5 stop) fun r s6 ⟨hr, I6⟩ => ?_
   subst hr
   exact fin s6 σ5 H5 I6 qn
  ·refine thn (T.item (blk X scope N' { s2 with heap := hp3 } (upd H2 s2.heap.objs.size (.dK [])) hp3.objs.size fp) rfl rfl rfl hc i [] s5 σ5 H5 _ I5 (frB fr5) st5 go) fun r s6 ⟨u, hr, h6⟩ => ?_
   subst hr
   refine thn h6 fun _ s7 ⟨x, H7, I7, r7, y7, st7, fr7⟩ => ?_
   have I7' := I7.pinned (frB fr7) (T.obj _ _ st7)
   refine thn (hg _ _ _ _ s7 σ5 H7 x u _ I7' r7 (step x H7 y7)) fun _ s8 ⟨σ8, H8, I8, q8⟩ => ?_
   refine thn (ht _ _ _ _ s8 σ8 H8 _ I8 q8) fun ok s9 ⟨H9, I9, q9⟩ => ?_
   have again : ∀ {σa : St} {Ha : Hp} {sa : Shared}, Inv (blk X scope N' { s2 with heap := hp3 } (upd H2 s2.heap.objs.size (.dK [])) hp3.objs.size fp) ([] ++ yb5 fp s7.heap) σa Ha sa -> Nx σa Ha ->
     ∃ m, m < n /\ ∃ i σ' H', Inv (blk X scope N' { s2 with heap := hp3 } (upd H2 s2.heap.objs.size (.dK [])) hp3.objs.size fp) [] σ' H' sa /\ tn i sa.heap /\ (∀ b ∈ fp, H' b = none) /\ W i m σ' H' := fun {σa Ha sa} Ia na => by
    obtain ⟨m', hm, wa⟩ := hN σa Ha na
    refine ⟨m', hm, i + 1, σa, Ha, Ia.unpinned, T.keep _ _ _ st7 fun b hb o e => (Ia.pin (b, o) (List.mem_append_right _ (List.mem_append_right _ (zk3 hb e)))).1, fun b hb => ?_, wa⟩
    obtain ⟨o, e, d⟩ := T.obj _ _ st7 b hb
    exact (Ia.pin (b, o) (List.mem_append_right _ (List.mem_append_right _ (zk3 hb e)))).2.1
   cases ok with
   | false => exact again I9 q9
   | true =>
    refine thn (hk _ _ _ _ s9 σ8 H9 _ I9 q9) fun kv s9' ⟨kk, H9', I9', rk, q9'⟩ => ?_
    refine thn (he _ _ _ _ s9' σ8 H9' _ I9' q9') fun y s10 ⟨v, H10, I10, r10, kvs, k, ek, hx, hl, q10⟩ => ?_
    subst ek
    obtain ⟨z, hd, vs, rel, dd⟩ := yx2 I10.hok hx
    have hz : vs.length <= sizeLine := by rw [← rel.length]; exact z
    have hl2 : (putK kvs k v).length <= sizeLine := by have := zg8 kvs k v; omega
    refine wpAny_dictSet_pairs (knd := zd0 X.prog X.w) (hsz := hz) (yf6 rk) dd fun h' dd' hs => ?_
    have he' : ∃ q, h'.get? s2.heap.objs.size = some q := let ⟨q, _, _, hq, _⟩ := dd'; ⟨q, hq⟩
    have I11 := zv8 (t' := s10.toks + 1) I10 (by rw [hx]; exact True.intro) hs he' (yq9 hl2 hd (rel.put k r10) dd')
    exact again I11 q10
 exact codeAny_compStart_dict (loop _ rfl) (T.self _ 0 _ _ _ h04 (loop _ rfl))
def tDComp (wi : TI) (src : List (Option Nat)) (g : TG) (tt : TT) (tkx te : TE) : TE := fun σ H Q => wi σ H fun J H2 => ∀ D, H2 D = none -> xj7 J g tt tkx te D (sub src σ) (upd H2 D (.dK [])) fun H' => Q (.ref D) H'
theorem yp3 {kx vx tg iter : Expr} {ifs : List Expr} {pos spos py : Pos} {wi : TI} {g : TG} {tt : TT} {tkx te : TE} {i : Nat} {y : Str} (hc : X.calm = true) (hN : X.N.Nodup) (hi' : X.N[i]? = some y) (hy : X.env.scope.names.lookup y = some .local) (B : BlkN X scope N' src) (hi : PI X tg iter wi)
  (hg : ∀ s3 H3 C fp, PG (blk X scope N' s3 H3 C fp) tg g) (ht : ∀ s3 H3 C fp, PTs (blk X scope N' s3 H3 C fp) ifs tt) (hk : ∀ s3 H3 C fp, PE (blk X scope N' s3 H3 C fp) kx tkx) (he : ∀ s3 H3 C fp, PE (blk X scope N' s3 H3 C fp) vx te)
  (hsw : swapsWith (.DictComp kx vx [⟨tg, iter, ifs, 0⟩] scope pos) (some (.Name y py)) spos.line X.env = pure true := by rfl)
  (hnl : (scope.names.all fun y => decide (y.2 = .free -> ∀ z ∈ scope.names, z.1 = y.1 -> z.2 = .free)) = true := by decide +kernel)
  (hs : ∀ x, foldedSetIterable iter X.env x = pure x := by intro _; rfl) :
  PS X (.Assign [.Name y py] (.DictComp kx vx [⟨tg, iter, ifs, 0⟩] scope pos) spos) (tAsg (tDComp wi src g tt tkx te) (zf8 i)) := by
 intro pins s σ H D I h
 have hnl' : ∀ x k, (x, k) ∈ scope.names -> k = .free -> ∀ k', (x, k') ∈ scope.names -> k' = .free := fun x k hm hk k' hm' => of_decide_eq_true (List.all_eq_true.mp hnl (x, k) hm) hk (x, k') hm' rfl
 have hclos : closureFor scope X.env = pure (clOf X.env scope.names) := zm6 fun y hy hf => I.ok.has y.1 (of_decide_eq_true (List.all_eq_true.mp B.frees y hy) hf)
 have hnames : ∀ y ∈ scope.names, y.2 = .local -> scope.names.lookup y.1 = some .local := fun y hy => of_decide_eq_true (List.all_eq_true.mp B.locs y hy)
 rw [exec_Assign_Name_used _ _ _ _ hsw]
 refine wpAny_bind (wpAny_standAt (wpAny_bind ?_))
 show wpAny _ X.A (do let _ ← comprehension (.DictComp kx vx [⟨tg, iter, ifs, 0⟩] scope pos) scope X.env _ (newDict) false (eval iter X.env) (some (assign (.Name y py) X.env))) _ _ s
 have h' : wi σ H fun J H2 => ∀ D', H2 D' = none -> xj7 J g tt tkx te D' (sub src σ) (upd H2 D' (.dK [])) fun H' => D.nx (σ.set i (some (.ref D'))) H' := h
 refine wpAny_bind (wpAny_mono (wpAny_comprehension_free (use := some (assign (.Name y py) X.env)) (Q := fun _ s' => SP X pins D .next s') rfl hs hclos B.kind hnames
  (thn (hi pins s σ H _ I h') fun xv s₁ h₁ => thn h₁ fun itv s2 h2 => ?_)) (fun _ s' hq => wpAny_pure (wpAny_pure hq)) fun _ _ e => e)
 obtain ⟨it, fp, tn, J, H2, rfl, I2, T, h0, hf, hw⟩ := h2
 refine yp4 (RR := fun acc C => compPost (model X.prog X.w) X.A X.xe (some (assign (.Name y py) X.env)) (fun _ s' => SP X pins D .next s') acc C) (Q := fun D' H' => D.nx (σ.set i (some (.ref D'))) H') hc B hnl' T I2 h0 hf (fun a b c => hg a b c fp) (fun a b c => ht a b c fp) (fun a b c => hk a b c fp) (fun a b c => he a b c fp) hw ?_
 intro D' C H' s' hCD hm hsb IX hCh hCL hCc hCs hCp q
 obtain ⟨m, hm⟩ := hm
 show wpAny _ X.A (assign (.Name y py) X.env (.ref D')) _ _ _
 refine wpAny_assign_Name ?_
 refine zw5 (v := .ref D') IX hN hi' (.inl hy) rfl (fun s'' I'' hsame => ?_) (.inr hy)
 obtain ⟨a, hs', ha⟩ := hsame
 have hCa : C ≠ a := by
  rintro rfl
  rcases ha with z | z
  ·exact hCL z
  ·exact hCc _ _ z rfl
 refine ⟨m, hm.sameBut hs' hCa, fun h'' sb => ⟨_, H', ?_, q⟩⟩
 exact I''.turned (t' := s''.toks) (fun b o hb e => (sb.2 b hb).trans e) hCh hCL (.inr hCs) hCc hCp
end
end L2
end
section
namespace L2
open PySem PySem.Spec PyProof.Rows
def Itd (hi : Int) (n : Nat) : It := ⟨fun i _ => i < n, fun i H x H' => H' = H /\ x = .int (hi - i), fun i _ => n <= i⟩
theorem xc2 {P : Program} {w : World} {K : PySem.W.Frag} {tg : Expr} (it : Addr) (hi : Int) (n : Nat) : Turn P w K tg (Itd hi n) [it] it (fun i h => IsRangeIter h it (hi + (i : Nat) * -1) ((n : Int) - (i : Nat)) (-1)) where
 mem := by simp
 obj := fun i h st b hb => by
  have e : b = it := by simpa using hb
  subst e
  exact ⟨_, st, fun v z => by
   have z' : Data.fields _ = Data.cell v := z
   cases z'⟩
 keep := fun i h h' st k => k it (by simp) _ st
 item := by
  intro X hP hw hK hc i pins s σ H E I hf st hg
  subst hP hw hK
  obtain ⟨f0, f1, f2, f3, f4, f5⟩ := hf it (by simp)
  have W := Walks.range (prog := X.prog) (w := X.w) (I.ok.hd hc) it hi (-1) n
  refine W.item i s _ _ hg st fun v h' tk hv st' kk => ?_
  obtain ⟨t, rfl⟩ := hv
  have I1 : Inv X pins σ H { s with heap := h', toks := tk } := I.turned (fun b o hb e => kk b o (by simpa using hb) e) f0 f1 f3 f4 f5
  refine ⟨_, rfl, yw5 (s := { s with heap := h', toks := tk }) (n := "range_iterator") st' rfl rfl (by decide) ⟨.int (hi - i), H, I1, ⟨t, ?_⟩, ⟨rfl, rfl⟩, st', fun b hb => (hf b hb).1⟩⟩
  have e : hi + (i : Int) * -1 = hi - i := by (clear f3 f2; omega)
  rw [e]
 done := by
  intro X hP hw hK hc i pins s σ H E I hf st hg
  subst hP hw hK
  obtain ⟨f0, f1, f2, f3, f4, f5⟩ := hf it (by simp)
  exact wpAny_pyNext_range_end (I.ok.hd hc) st (by have : n <= i := hg; (clear f3 f2; omega)) fun h' eb => ⟨rfl, I.turned (t' := s.toks) (fun b o hb e => eb b o hb e) f0 f1 f3 f4 f5⟩
 self := fun _ _ _ _ _ st h => wpAny_pyIter_rangeiter st h
theorem yx4 {a b : Int} (ha : -(2 ^ 30) <= a) (ha' : a < 2 ^ 30) (hb : -(2 ^ 30) <= b) (hb' : b < 2 ^ 30) : Builtin.Range.small a b (-1) = true := by
 unfold Builtin.Range.small
 have e : Builtin.Range.rangeSize a b (-1) = if a > b then a - b else 0 := by
  unfold Builtin.Range.rangeSize
  simp only [show ¬ ((-1 : Int) > 0) by decide, if_false, show -(-1 : Int) = 1 by decide, Int.ediv_one]
  split <;> (rename_i q1_; clear q1_; clear hb' hb ha' ha; omega)
 rw [e]
 simp only [Builtin.Range.rangeFitsLong, Bool.and_eq_true, Bool.or_eq_true, decide_eq_true_eq, beq_iff_eq, show ¬ ((-1 : Int) > 0) by decide, if_false]
 split <;> (rename_i q1_; clear q1_; clear e; omega)
def iDown (ta : TA) : TI := fun σ H R => ta σ H fun vs H1 => ∃ i j : Int, vs = [.int i, .int j, .int (-1)] /\ (-(2 ^ 30) <= i /\ i < 2 ^ 30 /\ -(2 ^ 30) <= j /\ j < 2 ^ 30) /\ R (Itd i (i - j).toNat) H1
theorem wb4 {X : Cx} {tg a b c : Expr} {ta : TA} {p pos : Pos} (hg : Gl X "range") (hm : X.mg "range" = none) (ha : PA X [a, b, c] ta) (hs : starEach [a, b, c] X.env = [(false, eval a X.env), (false, eval b X.env), (false, eval c X.env)] := by rfl)
  (hs2 : starEach [b, c] X.env = [(false, eval b X.env), (false, eval c X.env)] := by rfl) : PI X tg (.Call (.Name "range" p) [a, b, c] [] pos) (iDown ta) := by
 intro pins s σ H R I h
 refine Call_ (zr2 I hg hm boot_range (PyProof.Rows.callWith_type1 (thn (ha pos pins s σ H _ I h) fun us s1 ⟨vs, H1, I1, r1, q1⟩ => ?_) (by rw [hs, hs2]) (by rw [hs2]; rfl)))
 obtain ⟨i, j, e, ⟨q1, q2, q3, q4⟩, q⟩ := q1
 subst e
 cases r1 with
 | cons r rr =>
  cases rr with
  | cons r' rr =>
   cases rr with
   | cons r'' rr =>
    cases rr
    obtain ⟨t, rfl⟩ := r
    obtain ⟨t', rfl⟩ := r'
    obtain ⟨t'', rfl⟩ := r''
    refine call_range_3 (by decide) ?_ (Or.inl (PyProof.noPylong_small (by decide)))
    refine wpAny_pyIter_range (IsRange.new ..) (yx4 q1 q2 q3 q4) ?_
    have I2 : Inv X pins σ H1 { s1 with heap := s1.heap.push { cls := .type "range", data := .fields #[.int i t, .int j t', .int (-1) t''] }, toks := s1.toks } := I1.kept fun b o e => Heap.get?_push_of_some _ e
    refine ⟨_, [_], _, _, H1, rfl, I2.kept (t' := s1.toks) fun b o e => Heap.get?_push_of_some _ e, xc2 _ i (i - j).toNat, ?_, fun b hb => ?_, q⟩
    ·have e1 : i + ((0 : Nat) : Int) * -1 = i := by (clear q4 q3 q2 q1; omega)
     have e2 : (((i - j).toNat : Nat) : Int) - ((0 : Nat) : Int) = Builtin.Range.rangeSize i j (-1) := by
      unfold Builtin.Range.rangeSize
      simp only [show ¬ ((-1 : Int) > 0) by decide, if_false, show -(-1 : Int) = 1 by decide, Int.ediv_one]
      split <;> (clear e1 q4 q3 q2 q1; omega)
     show IsRangeIter _ _ (i + ((0 : Nat) : Int) * -1) ((((i - j).toNat : Nat) : Int) - ((0 : Nat) : Int)) (-1)
     rw [e1, e2]
     exact Heap.get?_push_size _ rfl
    ·rw [List.mem_singleton.mp hb]
     exact I2.fpOk (Nat.le_refl _) (I2.hok.fresh (Nat.le_refl _))
theorem xm2 {hi : Int} {n : Nat} {g : TG} {tb : TS} {D : Ends} {σ : St} {H : Hp} (Pv : Nat -> St -> Hp -> Prop) (h0 : Pv 0 σ H)
  (hs : ∀ i σ H, i < n -> Pv i σ H -> g (.int (hi - i)) σ H fun σ2 H2 => tb { D with nx := Pv (i + 1), ct := Pv (i + 1), bk := D.nx } σ2 H2) (hd : ∀ σ H, Pv n σ H -> D.nx σ H) :
  ∃ W : Nat -> Nat -> St -> Hp -> Prop, (∃ m, W 0 m σ H) /\ ∀ i m σ H, W i m σ H ->
   ((Itd hi n).stop i H /\ D.nx σ H) ∨ ((Itd hi n).go i H /\ ∃ N : St -> Hp -> Prop, (∀ σ' H', N σ' H' -> ∃ m', m' < m /\ W (i + 1) m' σ' H') /\ ∀ x H', (Itd hi n).yld i H x H' -> g x σ H' fun σ2 H2 => tb { D with nx := N, ct := N, bk := D.nx } σ2 H2) := by
 refine ⟨fun i m σ H => m = n - i /\ i <= n /\ Pv i σ H, ⟨n, by simp, Nat.zero_le _, h0⟩, ?_⟩
 rintro i m σ H ⟨rfl, hi, p⟩
 by_cases hlt : i < n
 ·refine .inr ⟨hlt, Pv (i + 1), fun σ' H' p' => ⟨n - (i + 1), by (clear hi; omega), rfl, hlt, p'⟩, fun x H' y => ?_⟩
  obtain ⟨e, y⟩ := y
  subst e y
  exact hs i σ _ hlt p
 ·have e : i = n := by omega
  subst e
  exact .inl ⟨Nat.le_refl _, hd σ H p⟩
section
variable {X : Cx}
def rSlS : V -> Option Int -> Option Int -> Hp -> VK -> Prop := fun x lo hi H Q => ∃ z, x = .str z /\ z.length <= sizeLine /\ Q (.str (Txt.slice z lo hi)) H
theorem xs2 : SlR X rSlS := by
 intro pins s σ H x v vl vu lo hi sl Q I rx hs pl pu h
 obtain ⟨z, rfl, hz, q⟩ := h
 obtain ⟨t, rfl⟩ := rx
 refine ⟨"str", _, F.slot_str_getitem.lookup, typeIs_str _ _ _, ?_⟩
 have fin : ∀ (l u : Option (Int × Tok)), s.heap.IsSlice sl l u none -> l.map (·.1) = lo -> u.map (·.1) = hi -> wpAny (model X.prog X.w) X.A (getItem (.str z t) (.ref sl)) (EP X pins σ Q) X.xe s := fun l u hsl el eu => by
  refine wpAny_getItem_str_slice (l := l) (u := u) (st := none) hsl rfl (post_val_or_str ⟨?_, fun t' k => ?_⟩)
  ·have := Txt.slice_le z lo hi
   rw [← el, ← eu] at this
   exact Nat.le_trans this hz
  ·refine ⟨.str (Txt.slice z lo hi), H, I.tok _, ⟨t', ?_⟩, q⟩
   rw [← el, ← eu]
   rfl
 cases pl with
 | none => cases pu with
  | none => exact fin none none hs rfl rfl
  | int j tj => exact fin none (some (j, tj)) hs rfl rfl
 | int i ti => cases pu with
  | none => exact fin (some (i, ti)) none hs rfl rfl
  | int j tj => exact fin (some (i, ti)) (some (j, tj)) hs rfl rfl
def rMulS : R2 := fun x y H Q => ∃ z n, x = .str z /\ y = .int n /\ (n = 0 ∨ n = 1) /\ Q (.str (if n = 0 then Str.empty else z)) H
theorem xz0 : OpR X (binaryOp .Mult) rMulS := by
 intro pins s σ H x y v u Q I rx ry h
 obtain ⟨z, n, rfl, rfl, hn, q⟩ := h
 obtain ⟨t, rfl⟩ := rx
 obtain ⟨t', rfl⟩ := ry
 refine SB.mul ⟨?_, ?_, ?_⟩ fun t'' k => ⟨.str (Txt.mul z n), H, I.tok _, ⟨t'', rfl⟩, ?_⟩
 ·rcases hn with rfl | rfl <;> decide
 ·rcases hn with rfl | rfl
  ·intro h; exact absurd (by decide) h
  ·intro _ h; simp at h
 ·rcases hn with rfl | rfl
  ·intro h; exact absurd (by decide) h
  ·intro _ h; simp at h
 ·rcases hn with rfl | rfl
  ·exact q
  ·exact q
def rEqL (K : PySem.W.Frag) (neg : Bool) : R2 := fun x y H Q => ∃ a b xs, x = .ref a /\ y = .ref b /\ a ≠ b /\ SqL K H a xs /\ SqL K H b [] /\ Q (.bl (xs.isEmpty != neg)) H
theorem ys2 (hu : X.A.units < cLine) : OpR X (compareOp .Eq) (rEqL X.K false) := by
 intro pins s σ H x y v u Q I rx ry h
 obtain ⟨a, b, xs, rfl, rfl, hab, h1, h2, q⟩ := h
 cases rx
 cases ry
 obtain ⟨its, r, p, hz⟩ := I.list h1
 obtain ⟨its2, r2, p2, _⟩ := I.list h2
 cases r2
 show wpAny _ _ (richCompare .Eq (.ref a) (.ref b)) _ _ _
 cases r with
 | nil => exact SeqAt.RcAt.lists (e := fun _ => true) p.isList p2.isList rfl hu (fun j h => absurd h (by simp)) _ _ _ _ ⟨.bl true, H, I, by simp; rfl, q⟩
 | cons r rr => exact SeqAt.RcAt.lists_lengths p.isList p2.isList (by simp) hu _ _ _ _ ⟨.bl false, H, I, rfl, q⟩
theorem yd4 (hu : X.A.units < cLine) : OpR X (compareOp .NotEq) (rEqL X.K true) := by
 intro pins s σ H x y v u Q I rx ry h
 obtain ⟨a, b, xs, rfl, rfl, hab, h1, h2, q⟩ := h
 cases rx
 cases ry
 obtain ⟨its, r, p, hz⟩ := I.list h1
 obtain ⟨its2, r2, p2, _⟩ := I.list h2
 cases r2
 show wpAny _ _ (richCompare .NotEq (.ref a) (.ref b)) _ _ _
 cases r with
 | nil => exact SeqAt.RcNeAt.lists (e := fun _ => true) p.isList p2.isList rfl hu (fun j h => absurd h (by simp)) _ _ _ _ ⟨.bl false, H, I, by simp; rfl, q⟩
 | cons r rr => exact SeqAt.RcNeAt.lists_lengths p.isList p2.isList (by simp) hu _ _ _ _ ⟨.bl true, H, I, rfl, q⟩
theorem xq4 (its : List Value) : slicePick its.toArray none none (some (-1)) = its.reverse.toArray := by
 unfold slicePick
 have e : sliceBounds none none (some (-1)) its.toArray.size = ((its.length : Int) - 1, -1, -1) := by
  unfold sliceBounds
  simp
 rw [e]
 unfold sliceRange
 simp only [show ¬ ((-1 : Int) > 0) by decide, if_false, show -(-1 : Int) = 1 by decide, Int.ediv_one]
 have ec : (if (its.length : Int) - 1 > -1 then (its.length : Int) - 1 - -1 - -1 - 1 else 0).toNat = its.length := by split <;> omega
 rw [ec]
 congr 1
 rw [List.filterMap_map]
 refine List.ext_getElem? fun i => ?_
 have key : ∀ (n : Nat), n <= its.length -> (List.range n).filterMap ((fun x => its.toArray[x]?) ∘ fun (k : Nat) => ((its.length : Int) - 1 + -1 * (k : Int)).toNat) = its.reverse.take n := by
  intro n
  induction n with
  | zero => intro _; simp
  | succ n ih =>
   intro hn
   rw [List.range_succ, List.filterMap_append, ih (by (clear ih ec; omega)), List.take_add_one]
   congr 1
   have e2 : ((its.length : Int) - 1 + -1 * (n : Int)).toNat = its.length - 1 - n := by (clear hn ih ec; omega)
   have e3 : its[its.length - 1 - n]? = some its[its.length - 1 - n] := List.getElem?_eq_getElem (by (clear e2 ih ec; omega))
   have e4 : its.reverse[n]? = some its[its.length - 1 - n] := by rw [List.getElem?_reverse (by (clear e2 ih ec; omega))]; exact e3
   rw [e4]
   have e5 : ((fun x => its.toArray[x]?) ∘ fun (k : Nat) => ((its.length : Int) - 1 + -1 * (k : Int)).toNat) n = some its[its.length - 1 - n] := by
    show its.toArray[((its.length : Int) - 1 + -1 * (n : Int)).toNat]? = _
    rw [e2]
    simpa using e3
   rw [List.filterMap_cons, e5]
   rfl
 rw [key its.length (Nat.le_refl _)]
 rw [List.take_of_length_le (by simp)]
def tRev (K : PySem.W.Frag) (te : TE) (ts : TE) : TE := fun σ H Q => te σ H fun x H1 => ts σ H1 fun y H2 => y = .int (-1) /\ ∃ a xs, x = .ref a /\ SqL K H2 a xs /\ ∀ p, H2 p = none -> Q (.ref p) (upd H2 p (.lst xs.reverse))
theorem xr2 {e st : Expr} {te ts : TE} {p2 pos : Pos} (he : PE X e te) (hst : PE X st ts) : PE X (.Subscript e (.Slice none none (some st) p2) pos) (tRev X.K te ts) := by
 intro pins s σ H Q I h
 refine Subscript_ (thn (he pins s σ H _ I h) fun v s1 ⟨x, H1, I1, r1, q1⟩ => ?_)
 refine wpAny_Slice ?_
 rw [evalPart_none]
 refine wpAny_pure (wpAny_pure ?_)
 refine thn (hst pins s1 σ H1 _ I1 q1) fun vs s3 ⟨y, H3, I3, ry, ey, a, xs, ex, hq, q⟩ => ?_
 subst ey ex
 obtain ⟨tk, rfl⟩ := ry
 obtain rfl : v = Value.ref a := r1
 have I4 : Inv X pins σ H3 { s3 with heap := s3.heap.push { cls := .type "slice", data := .fields #[.none, .none, .int (-1) tk] } } := I3.kept (t' := s3.toks) fun b ob q => Heap.get?_push_of_some _ q
 show wpAny (model X.prog X.w) X.A (subscriptTail e (.Slice none none (some st) p2) (.ref a) (.ref s3.heap.objs.size)) (EP X pins σ Q) X.xe { s3 with heap := s3.heap.push { cls := .type "slice", data := .fields #[.none, .none, .int (-1) tk] } }
 obtain ⟨its, r, ht, hz⟩ := I4.list hq
 have hlen := r.length
 refine tail_any (ops := [.ref a, .ref s3.heap.objs.size]) ht.isList.typeIs slot_list_getitem.lookup ?_ (by with_unfolding_all rfl)
 refine wpAny_getItem_list_slice ht.isList (Heap.IsSliceOf.new ..) .none .none (.int (-1) tk) (by simp) ?_ (by rw [List.size_toArray] <;> omega)
 rw [xq4]
 refine ⟨.ref _, _, I4.laid (t' := s3.toks) (o := .lst xs.reverse) (fun b ob q => Heap.get?_push_of_some _ q) (Nat.le_refl _) ?_, rfl, q _ (I4.hok.fresh (Nat.le_refl _))⟩
 exact ⟨by rw [List.length_reverse]; exact hz, _, 0, r.reverse, Heap.get?_push_size _ rfl⟩
end
end L2
end
section
namespace L2
open PySem PySem.Spec PyProof.Rows
theorem Inv.turnedNew {X : Cx} {pins : List (Addr × Obj)} {σ : St} {H : Hp} {s : Shared} {h' : Heap} {t' : Nat} {ch : List Addr} {xs : List V} {its : List Value} (I : Inv X pins σ H s) (hf : ∀ b ∈ ch, FpOk X pins H b)
  (keep : ∀ b o, b ∉ ch -> s.heap.get? b = some o -> h'.get? b = some o) (hT : h'.get? s.heap.objs.size = some { cls := .type "tuple", data := .seq its.toArray }) (r : Vals xs its) (hz : xs.length <= sizeLine) :
  Inv X pins σ (upd H s.heap.objs.size (.tup xs)) { s with heap := h', toks := t' } := by
 have nit : ∀ b u, H b = some u -> b ∉ ch := fun b u e hb => by
  have := (hf b hb).1
  rw [this] at e; cases e
 have I0 : Inv X pins σ H { s with heap := h', toks := t' } := by
  refine I.step (g' := s.gens) (d' := s.drawn) (ch := ch) (fun b hb => ⟨(hf b hb).2.2.2.1, (hf b hb).2.1, (hf b hb).2.2.2.2.1, (hf b hb).2.2.2.2.2⟩) (fun b o _ _ hc e _ => keep b o hc e) (fun b o _ _ hc e _ => ⟨o.slots, keep b o hc e⟩)
   (fun _ _ _ _ n => n) (fun b o hc e => ⟨o, keep b o hc e⟩) (fun _ _ e => e) (fun _ _ _ e => e) (fun b ps e => ⟨#[], by rw [e]; simp⟩) (fun m hm => ?_) (fun b u eq => ?_) I.bare
  ·obtain ⟨o, es, ep, ho, r⟩ := hm
   exact ⟨o, es, ep, keep _ o (fun z => (hf _ z).2.1 rfl) ho, r⟩
  ·refine (I.hok b u eq).stay (fun c v hc q => keep c v ?_ q) (fun _ q => q) fun _ _ q => q
   rcases hc with z | z
   ·rw [z]; exact nit b u eq
   ·exact nit c _ z
 have hfree : H s.heap.objs.size = none := I.hok.fresh (Nat.le_refl _)
 have base := I0.base
 have hok : HOk X.prog X.w (upd H s.heap.objs.size (.tup xs)) h' := by
  intro b z q
  by_cases hb : b = s.heap.objs.size
  ·subst hb; rw [zb1] at q; cases q
   exact ⟨⟨hz, _, hT, rfl⟩, its, r, _, hT, rfl, _, rfl⟩
  ·rw [zb5 hb] at q
   refine (I0.hok b z q).stay (fun c w' _ r => r) (fun c r => ?_) fun c xs r => ?_
   ·rw [zb5 (zb4 r hfree)]; exact r
   ·rw [zb5 (zb4 r hfree)]; exact r
 have old : ∀ b o', X.s₀.heap.get? b = some o' -> b ≠ s.heap.objs.size := fun b o' e => Nat.ne_of_lt (Nat.lt_of_lt_of_le (Heap.lt_size e) I.sz)
 refine ⟨I0.ok, I0.os, I0.bare, ⟨base.keep, base.slot, fun b ob q n hx => ?_, base.there, fun b ys q => ?_, fun b ob y q => ?_, fun b ps q => ?_⟩, I0.loc, I0.cell, ?_, fun y c h => ?_, fun p hp => ?_, hok, I0.len⟩
 ·rw [zb5 (old b ob q)]; exact base.free b ob q n hx
 ·have := base.tups b ys q
  rw [zb5 (zb4 this hfree)]; exact this
 ·have := base.frzs b ob y q
  rw [zb5 (zb4 this hfree)]; exact this
 ·obtain ⟨m, this⟩ := base.tbls b ps q
  exact ⟨m, by rw [zb5 (zb4 this hfree)]; exact this⟩
 ·rw [zb5 (Nat.ne_of_lt I.lt)]; exact I.free
 ·obtain ⟨v, q⟩ := I.cell y c h
  rw [zb5 (Nat.ne_of_lt q.lt)]; exact I.freeC y c h
 ·obtain ⟨h1, h2, h3⟩ := I0.pin p hp
  have := Heap.lt_size (I.pin p hp).1
  exact ⟨h1, by rw [zb5 (Nat.ne_of_lt this)]; exact h2, h3⟩
theorem Inv.turnedAll {X : Cx} {pins : List (Addr × Obj)} {σ : St} {H : Hp} {s : Shared} {h' : Heap} {t' : Nat} {ch : List Addr} (I : Inv X pins σ H s) (hf : ∀ b ∈ ch, FpOk X pins H b)
  (keep : ∀ b o, b ∉ ch -> s.heap.get? b = some o -> h'.get? b = some o) : Inv X pins σ H { s with heap := h', toks := t' } := by
 have nit : ∀ b u, H b = some u -> b ∉ ch := fun b u e hb => by
  have := (hf b hb).1
  rw [this] at e; cases e
 refine I.step (g' := s.gens) (d' := s.drawn) (ch := ch) (fun b hb => ⟨(hf b hb).2.2.2.1, (hf b hb).2.1, (hf b hb).2.2.2.2.1, (hf b hb).2.2.2.2.2⟩) (fun b o _ _ hc e _ => keep b o hc e) (fun b o _ _ hc e _ => ⟨o.slots, keep b o hc e⟩)
  (fun _ _ _ _ n => n) (fun b o hc e => ⟨o, keep b o hc e⟩) (fun _ _ e => e) (fun _ _ _ e => e) (fun b ps e => ⟨#[], by rw [e]; simp⟩) (fun m hm => ?_) (fun b u eq => ?_) I.bare
 ·obtain ⟨o, es, ep, ho, r⟩ := hm
  exact ⟨o, es, ep, keep _ o (fun z => (hf _ z).2.1 rfl) ho, r⟩
 ·refine (I.hok b u eq).stay (fun c v hc q => keep c v ?_ q) (fun _ q => q) fun _ _ q => q
  rcases hc with z | z
  ·rw [z]; exact nit b u eq
  ·exact nit c _ z
def ItB (tp : Bool) (h : Heap) (it l : Addr) (k : Nat) : Prop := match tp with | true => h.IsTupleIter it l k | false => h.IsListIter it l k
def SeB (tp : Bool) (h : Heap) (l : Addr) (xs : Array Value) : Prop := match tp with | true => h.IsTuple l xs | false => h.IsList l xs
theorem ItB.at {tp : Bool} {h h' : Heap} {it l : Addr} {k : Nat} (x : ItB tp h it l k) (e : ∀ o, h.get? it = some o -> h'.get? it = some o) : ItB tp h' it l k := by
 cases tp with
 | true => exact Heap.IsTupleIter.at x e
 | false => exact Heap.IsListIter.at x e
theorem SeB.at {tp : Bool} {h h' : Heap} {l : Addr} {xs : Array Value} (x : SeB tp h l xs) (e : ∀ o, h.get? l = some o -> h'.get? l = some o) : SeB tp h' l xs := by
 cases tp with
 | true => obtain ⟨o, ho, r⟩ := (show h.IsTuple l xs from x); exact ⟨o, e _ ho, r⟩
 | false => exact Heap.IsList.at x e
theorem ItB.obj {tp : Bool} {h : Heap} {it l : Addr} {k : Nat} (x : ItB tp h it l k) : ∃ o, h.get? it = some o /\ ∀ v, o.data ≠ .cell v := by
 cases tp with
 | true => obtain ⟨o, e, c, d⟩ := (show h.IsTupleIter it l k from x); exact ⟨o, e, fun v z => by rw [d] at z; cases z⟩
 | false => obtain ⟨o, e, c, d⟩ := (show h.IsListIter it l k from x); exact ⟨o, e, fun v z => by rw [d] at z; cases z⟩
section
variable {prog : Program} {w : World} {A : Around} {E : Value -> Shared -> Prop} {s : Shared}
theorem zp2 {tp : Bool} {it l : Addr} {k : Nat} {items : Array Value} {x : Value} {Q : Value -> Shared -> Prop} (hit : ItB tp s.heap it l k) (hl : SeB tp s.heap l items) (hx : items[k]? = some x)
  (hQ : ∀ h', ItB tp h' it l (k + 1) -> Heap.SameBut it s.heap h' -> Q x { s with heap := h' }) : wpAny (model prog w) A (Builtin.SmallTypes.nextOf (.ref it)) Q E s := by
 cases tp with
 | false => exact wpAny_nextOf_list_item hit hl hx hQ
 | true =>
  have hit : s.heap.IsTupleIter it l k := hit
  obtain ⟨o, ho, hc, hd⟩ := id hit
  obtain ⟨ol, hol, _, nl, hdl⟩ := (show s.heap.IsTuple l items from hl)
  unfold Builtin.SmallTypes.nextOf
  refine wpAny_bind (wpAny_callSpecial?_slot (name := Str.ofString "__next__") hit.typeIs F.slot_tuple_iterator_next (wpAny_call_entry F.slot_tuple_iterator_next hit.typeIs F.entry_tuple_iterator_next ?_ (F.args_tuple_iterator_next_1 _)))
  show wpAny _ _ (field (.ref it) 0 >>= _) _ _ s
  refine wpAny_bind (wpAny_field ho hd (x := .ref l) rfl ?_)
  show wpAny _ _ (if (Value.ref l == Value.none) = true then _ else _) _ _ s
  rw [if_neg (show ¬ ((Value.ref l == Value.none) = true) from Bool.false_ne_true)]
  show wpAny _ _ (field (.ref it) 1 >>= _) _ _ s
  refine wpAny_bind (wpAny_field ho hd (x := .int k 0) rfl ?_)
  show wpAny _ _ (seqItems? (.ref l) >>= _) _ _ s
  refine wpAny_bind (wpAny_seqItems hol hdl ?_)
  simp only [Int.toNat_natCast, hx]
  refine wpAny_bind (wpAny_setField ho hd (by simp) (wpAny_pure ⟨x, rfl, wpAny_pure (hQ _ (show Heap.IsTupleIter _ it l (k + 1) from ?_) (Heap.SameBut.update ..))⟩))
  exact ⟨_, Heap.get?_update_self _ ho (Obj.isFreed_of_fields (Obj.data_mapFields hd _)), (Obj.cls_mapFields ..).trans hc, by rw [Obj.data_mapFields hd]; simp [rawInt]⟩
theorem yd7 {tp : Bool} {it l : Addr} {k : Nat} {items : Array Value} {Q : Value -> Shared -> Prop} (hh : A.handled = none) (hit : ItB tp s.heap it l k) (hl : SeB tp s.heap l items) (hx : items[k]? = none)
  (hE : ∀ h' e, Heap.ExtBut it s.heap h' -> (∃ o, h'.get? e = some o /\ o.cls = .type "StopIteration") -> E (.ref e) { s with heap := h' }) : wpAny (model prog w) A (Builtin.SmallTypes.nextOf (.ref it)) Q E s := by
 cases tp with
 | false => exact wpAny_nextOf_list_end hh hit hl hx hE
 | true =>
  have hit : s.heap.IsTupleIter it l k := hit
  obtain ⟨o, ho, hc, hd⟩ := id hit
  obtain ⟨ol, hol, _, nl, hdl⟩ := (show s.heap.IsTuple l items from hl)
  unfold Builtin.SmallTypes.nextOf
  refine wpAny_bind (wpAny_callSpecial?_slot (name := Str.ofString "__next__") hit.typeIs F.slot_tuple_iterator_next (wpAny_call_entry F.slot_tuple_iterator_next hit.typeIs F.entry_tuple_iterator_next ?_ (F.args_tuple_iterator_next_1 _)))
  show wpAny _ _ (field (.ref it) 0 >>= _) _ _ s
  refine wpAny_bind (wpAny_field ho hd (x := .ref l) rfl ?_)
  show wpAny _ _ (if (Value.ref l == Value.none) = true then _ else _) _ _ s
  rw [if_neg (show ¬ ((Value.ref l == Value.none) = true) from Bool.false_ne_true)]
  show wpAny _ _ (field (.ref it) 1 >>= _) _ _ s
  refine wpAny_bind (wpAny_field ho hd (x := .int k 0) rfl ?_)
  show wpAny _ _ (seqItems? (.ref l) >>= _) _ _ s
  refine wpAny_bind (wpAny_seqItems hol hdl ?_)
  simp only [Int.toNat_natCast, hx]
  refine wpAny_bind (wpAny_rule (wpAny_bind (wpAny_setField ho hd (by simp) ?_)))
  show wpAny _ _ (newExc (.type "StopIteration") [] >>= _) _ _ _
  refine wpAny_bind ?_
  simp only [newExc, newTuple]
  refine wpAny_bind (wpAny_newObj_type ?_ (by size_fits))
  refine wpAny_bind (m := firstArgMember _ _) (wpAny_of_eq (a := Value.none) (by first | rfl | (simp only [firstArgMember]; rfl)) ?_)
  refine wpAny_newObj_type ?_ (by size_fits)
  simp only [raiseNew]
  refine wpAny_bind (wpAny_handled ?_)
  first | rw [show A.in1.handled = none from hh] | rw [hh]
  refine wpAny_bind (wpAny_pure (wpAny_throw ?_))
  exact hE _ _ (((Heap.SameBut.update ..).extBut.push _).push _) ⟨_, Heap.get?_push_size _ rfl, rfl⟩
theorem yk8 {p q : Bool} {z TI TO i1 i2 l1 l2 : Addr} {k : Nat} {xs ys : Array Value} {x y a b : Value} {Q : Option Value -> Shared -> Prop} (D : ZipApart z TI TO i1 i2 l1 l2)
  (hz : IsZip s.heap z TI TO .none) (hTI : IsPair s.heap TI (.ref i1) (.ref i2)) (hTO : IsPair s.heap TO a b)
  (h1 : ItB p s.heap i1 l1 k) (h2 : ItB q s.heap i2 l2 k) (hl1 : SeB p s.heap l1 xs) (hl2 : SeB q s.heap l2 ys) (hx : xs[k]? = some x) (hy : ys[k]? = some y)
  (hQ : ∀ h', IsZip h' z TI TO (rawInt s.heap.objs.size) -> IsPair h' TO x y -> ItB p h' i1 l1 (k + 1) -> ItB q h' i2 l2 (k + 1) -> IsPair h' s.heap.objs.size x y ->
   (∀ c o, c ≠ z -> c ≠ TO -> c ≠ i1 -> c ≠ i2 -> s.heap.get? c = some o -> h'.get? c = some o) -> Q (some (.ref s.heap.objs.size)) { s with heap := h' }) :
  wpAny (model prog w) A (pyNext (.ref z)) Q E s := by
 have hT : s.TypeIs (.ref z) "zip" := ⟨_, hz, rfl⟩
 unfold pyNext
 refine wpAny_bind (wpAny_attempt (wpAny_callSpecial?_slot (name := Str.ofString "__next__") hT F.slot_zip_next (wpAny_call_entry F.slot_zip_next hT F.entry_zip_next ?_ (F.args_zip_next_1 _))))
 show wpAny _ _ (field (.ref z) 2 >>= _) _ _ _
 refine wpAny_bind (wpAny_field hz rfl (x := .bool false) rfl ?_)
 show wpAny _ _ (field (.ref z) 3 >>= _) _ _ _
 refine wpAny_bind (wpAny_field hz rfl (x := .ref TI) rfl (wpAny_bind (wpAny_seqItems hTI rfl ?_)))
 show wpAny _ _ (Builtin.SmallTypes.ownedTupleIsFree (.ref z) >>= _) _ _ _
 refine wpAny_bind ?_
 unfold Builtin.SmallTypes.ownedTupleIsFree
 refine wpAny_bind (wpAny_field hz rfl (x := .none) rfl (wpAny_pure ?_))
 simp only [if_true]
 refine wpAny_bind (wpAny_rule (wpAny_bind (wpAny_field hz rfl (x := .ref TO) rfl (wpAny_bind (wpAny_setField_rec hz (by simp) fun h₁ hz₁ hs₁ => ?_)))))
 replace hz₁ : IsZip h₁ z TI TO .ellipsis := hz₁
 refine wpAny_bind ?_
 simp only [List.zipIdx_cons, List.zipIdx_nil, List.forIn_cons, List.forIn_nil]
 refine wpAny_bind (wpAny_bind (wpAny_onRaise ?_))
 show wpAny _ _ (Builtin.SmallTypes.nextOf (.ref i1) >>= _) _ _ _
 refine wpAny_bind (zp2 (h1.at fun o e => hs₁.extBut _ _ D.i1z e) (hl1.at fun o e => hs₁.extBut _ _ D.l1z e) hx fun h₂ h1₂ hs₂ => wpAny_pure ?_)
 have hTO₂ : IsPair h₂ TO a b := hs₂.extBut _ _ D.TOi1 (hs₁.extBut _ _ D.TOz hTO)
 refine wpAny_bind (wpAny_seqItems hTO₂ rfl (wpAny_bind (wpAny_updateSeq_pair hTO₂ fun h₃ hTO₃ hs₃ => ?_)))
 replace hTO₃ : IsPair h₃ TO x b := hTO₃
 refine wpAny_bind (wpAny_letGo (wpAny_pure ?_))
 refine wpAny_bind (wpAny_bind (wpAny_onRaise ?_))
 show wpAny _ _ (Builtin.SmallTypes.nextOf (.ref i2) >>= _) _ _ _
 refine wpAny_bind (zp2 (h2.at fun o e => hs₃.extBut _ _ D.TOi2.symm (hs₂.extBut _ _ D.i12.symm (hs₁.extBut _ _ D.i2z e)))
  (hl2.at fun o e => hs₃.extBut _ _ D.l2TO (hs₂.extBut _ _ D.l2i1 (hs₁.extBut _ _ D.l2z e))) hy fun h₄ h2₄ hs₄ => wpAny_pure ?_)
 have hTO₄ : IsPair h₄ TO x b := hs₄.extBut _ _ D.TOi2 hTO₃
 refine wpAny_bind (wpAny_seqItems hTO₄ rfl (wpAny_bind (wpAny_updateSeq_pair hTO₄ fun h₅ hTO₅ hs₅ => ?_)))
 replace hTO₅ : IsPair h₅ TO x y := hTO₅
 refine wpAny_bind (wpAny_letGo (wpAny_pure (wpAny_pure ?_)))
 refine wpAny_bind (wpAny_seqItems hTO₅ rfl (wpAny_bind (wpAny_newTuple ?_)))
 have hsz : h₅.objs.size = s.heap.objs.size := by rw [hs₅.1, hs₄.1, hs₃.1, hs₂.1, hs₁.1]
 have hz₅ : IsZip h₅ z TI TO .ellipsis := hs₅.extBut _ _ D.TOz.symm (hs₄.extBut _ _ D.i2z.symm (hs₃.extBut _ _ D.TOz.symm (hs₂.extBut _ _ D.i1z.symm hz₁)))
 have hk₅ : ∀ c o, c ≠ z -> c ≠ TO -> c ≠ i1 -> c ≠ i2 -> s.heap.get? c = some o -> h₅.get? c = some o := fun c o c1 c2 c3 c4 e =>
  hs₅.extBut _ _ c2 (hs₄.extBut _ _ c4 (hs₃.extBut _ _ c2 (hs₂.extBut _ _ c3 (hs₁.extBut _ _ c1 e))))
 have h1₅ : ItB p h₅ i1 l1 (k + 1) := h1₂.at fun o e => hs₅.extBut _ _ D.TOi1.symm (hs₄.extBut _ _ D.i12 (hs₃.extBut _ _ D.TOi1.symm e))
 have h2₅ : ItB q h₅ i2 l2 (k + 1) := h2₄.at fun o e => hs₅.extBut _ _ D.TOi2.symm e
 have hzlt : z < h₅.objs.size := Heap.lt_size hz₅
 show wpAny _ _ (Builtin.SmallTypes.ownedTupleHandOut (.ref z) (.ref h₅.objs.size) >>= _) _ _ _
 refine wpAny_bind ?_
 unfold Builtin.SmallTypes.ownedTupleHandOut
 have hz₆ : IsZip (h₅.push { cls := .type "tuple", data := .seq #[x, y] }) z TI TO .ellipsis := Heap.get?_push_of_some _ hz₅
 refine wpAny_bind (wpAny_setField_rec hz₆ (by simp) fun h₇ hz₇ hs₇ => ?_)
 replace hz₇ : IsZip h₇ z TI TO (rawInt h₅.objs.size) := hz₇
 refine wpAny_setField_rec hz₇ (by simp) fun h₈ hz₈ hs₈ => ?_
 replace hz₈ : IsZip h₈ z TI TO (rawInt h₅.objs.size) := hz₈
 have up : ∀ c o, c ≠ z -> h₅.get? c = some o -> h₈.get? c = some o := fun c o c1 e => hs₈.extBut _ _ c1 (hs₇.extBut _ _ c1 (Heap.get?_push_of_some _ e))
 have hT₈ : IsPair h₈ h₅.objs.size x y := hs₈.extBut _ _ (Nat.ne_of_gt hzlt) (hs₇.extBut _ _ (Nat.ne_of_gt hzlt) (Heap.get?_push_size _ rfl))
 rw [hsz] at hz₈ hT₈
 refine wpAny_pure ⟨_, rfl, ?_⟩
 show wpAny _ _ (pure (some (Value.ref h₅.objs.size))) _ _ _
 refine wpAny_pure ?_
 rw [hsz]
 exact hQ h₈ hz₈ (up _ _ D.TOz hTO₅) (h1₅.at fun o e => up _ o D.i1z e) (h2₅.at fun o e => up _ o D.i2z e) hT₈ fun c o c1 c2 c3 c4 e => up c o c1 (hk₅ c o c1 c2 c3 c4 e)
theorem ys7 {p q : Bool} {z TI TO i1 i2 l1 l2 : Addr} {k : Nat} {xs ys : Array Value} {a b : Value} {Q : Option Value -> Shared -> Prop} (hh : A.handled = none) (D : ZipApart z TI TO i1 i2 l1 l2)
  (hz : IsZip s.heap z TI TO .none) (hTI : IsPair s.heap TI (.ref i1) (.ref i2)) (hTO : IsPair s.heap TO a b)
  (h1 : ItB p s.heap i1 l1 k) (h2 : ItB q s.heap i2 l2 k) (hl1 : SeB p s.heap l1 xs) (hl2 : SeB q s.heap l2 ys) (hend : xs[k]? = none ∨ ys[k]? = none)
  (hQ : ∀ h', (∀ c o, c ≠ z -> c ≠ TO -> c ≠ i1 -> c ≠ i2 -> s.heap.get? c = some o -> h'.get? c = some o) -> Q none { s with heap := h' }) : wpAny (model prog w) A (pyNext (.ref z)) Q E s := by
 have hT : s.TypeIs (.ref z) "zip" := ⟨_, hz, rfl⟩
 unfold pyNext
 have stop : ∀ (h' : Heap) (e : Addr), (∀ c o, c ≠ z -> c ≠ TO -> c ≠ i1 -> c ≠ i2 -> s.heap.get? c = some o -> h'.get? c = some o) -> (∃ o, h'.get? e = some o /\ o.cls = .type "StopIteration") ->
   wpAny (model prog w) A (do if (← isInstance (.ref e) (.type "StopIteration")) = true then pure none else throw (.ref e)) Q E { s with heap := h' } := fun h' e hk he => by
  obtain ⟨o, ho, hc⟩ := he
  exact wpAny_bind (wpAny_isInstance (T := "StopIteration") (b := true) ⟨o, ho, hc⟩ isSubtype_stop (wpAny_pure (hQ _ hk)))
 refine wpAny_bind (wpAny_attempt (wpAny_callSpecial?_slot (name := Str.ofString "__next__") hT F.slot_zip_next (wpAny_call_entry F.slot_zip_next hT F.entry_zip_next ?_ (F.args_zip_next_1 _))))
 show wpAny _ _ (field (.ref z) 2 >>= _) _ _ _
 refine wpAny_bind (wpAny_field hz rfl (x := .bool false) rfl ?_)
 show wpAny _ _ (field (.ref z) 3 >>= _) _ _ _
 refine wpAny_bind (wpAny_field hz rfl (x := .ref TI) rfl (wpAny_bind (wpAny_seqItems hTI rfl ?_)))
 show wpAny _ _ (Builtin.SmallTypes.ownedTupleIsFree (.ref z) >>= _) _ _ _
 refine wpAny_bind ?_
 unfold Builtin.SmallTypes.ownedTupleIsFree
 refine wpAny_bind (wpAny_field hz rfl (x := .none) rfl (wpAny_pure ?_))
 simp only [if_true]
 refine wpAny_bind (wpAny_rule (wpAny_bind (wpAny_field hz rfl (x := .ref TO) rfl (wpAny_bind (wpAny_setField_rec hz (by simp) fun h₁ hz₁ hs₁ => ?_)))))
 replace hz₁ : IsZip h₁ z TI TO .ellipsis := hz₁
 refine wpAny_bind ?_
 simp only [List.zipIdx_cons, List.zipIdx_nil, List.forIn_cons, List.forIn_nil]
 refine wpAny_bind (wpAny_bind (wpAny_onRaise ?_))
 show wpAny _ _ (Builtin.SmallTypes.nextOf (.ref i1) >>= _) _ _ _
 have i1₁ := h1.at (h' := h₁) fun o e => hs₁.extBut _ _ D.i1z e
 have l1₁ := hl1.at (h' := h₁) fun o e => hs₁.extBut _ _ D.l1z e
 cases hx : xs[k]? with
 | none =>
  refine wpAny_bind (yd7 hh i1₁ l1₁ hx fun h₂ e hs₂ he => ?_)
  obtain ⟨oe, hoe, hce⟩ := he
  have hz₂ : IsZip h₂ z TI TO .ellipsis := hs₂ _ _ D.i1z.symm hz₁
  have hez : e ≠ z := fun x => by subst x; rw [hz₂] at hoe; cases hoe; simp at hce
  refine wpAny_setField_rec hz₂ (by simp) fun h₃ _ hs₃ => ?_
  exact stop h₃ e (fun c o c1 _ c3 _ x => hs₃.extBut _ _ c1 (hs₂ _ _ c3 (hs₁.extBut _ _ c1 x))) ⟨oe, hs₃.extBut _ _ hez hoe, hce⟩
 | some x =>
  have hy : ys[k]? = none := by rcases hend with h | h; rw [hx] at h; cases h; exact h
  refine wpAny_bind (zp2 i1₁ l1₁ hx fun h₂ h1₂ hs₂ => wpAny_pure ?_)
  have hTO₂ : IsPair h₂ TO a b := hs₂.extBut _ _ D.TOi1 (hs₁.extBut _ _ D.TOz hTO)
  refine wpAny_bind (wpAny_seqItems hTO₂ rfl (wpAny_bind (wpAny_updateSeq_pair hTO₂ fun h₃ hTO₃ hs₃ => ?_)))
  refine wpAny_bind (wpAny_letGo (wpAny_pure ?_))
  refine wpAny_bind (wpAny_bind (wpAny_onRaise ?_))
  show wpAny _ _ (Builtin.SmallTypes.nextOf (.ref i2) >>= _) _ _ _
  refine wpAny_bind (yd7 hh (h2.at fun o e => hs₃.extBut _ _ D.TOi2.symm (hs₂.extBut _ _ D.i12.symm (hs₁.extBut _ _ D.i2z e)))
   (hl2.at fun o e => hs₃.extBut _ _ D.l2TO (hs₂.extBut _ _ D.l2i1 (hs₁.extBut _ _ D.l2z e))) hy fun h₄ e hs₄ he => ?_)
  obtain ⟨oe, hoe, hce⟩ := he
  have hz₄ : IsZip h₄ z TI TO .ellipsis := hs₄ _ _ D.i2z.symm (hs₃.extBut _ _ D.TOz.symm (hs₂.extBut _ _ D.i1z.symm hz₁))
  have hez : e ≠ z := fun x => by subst x; rw [hz₄] at hoe; cases hoe; simp at hce
  refine wpAny_setField_rec hz₄ (by simp) fun h₅ _ hs₅ => ?_
  exact stop h₅ e (fun c o c1 c2 c3 c4 x => hs₅.extBut _ _ c1 (hs₄ _ _ c4 (hs₃.extBut _ _ c2 (hs₂.extBut _ _ c3 (hs₁.extBut _ _ c1 x))))) ⟨oe, hs₅.extBut _ _ hez hoe, hce⟩
end
end L2
end
section
namespace L2
open PySem PySem.Spec PyProof.Rows
def SqB (K : PySem.W.Frag) (tp : Bool) (H : Hp) (a : Addr) (xs : List V) : Prop := match tp with | true => SqT K H a xs | false => SqL K H a xs
def Itz (K : PySem.W.Frag) (p q : Bool) (a b : Addr) : It :=
 ⟨fun i H => ∃ xs ys x y, SqB K p H a xs /\ SqB K q H b ys /\ xs[i]? = some x /\ ys[i]? = some y,
  fun i H v H' => ∃ T x y, H T = none /\ v = .ref T /\ H' = upd H T (.tup [x, y]) /\ (∀ xs, SqB K p H a xs -> xs[i]? = some x) /\ ∀ ys, SqB K q H b ys -> ys[i]? = some y,
  fun i H => ∃ xs ys, SqB K p H a xs /\ SqB K q H b ys /\ (xs.length <= i ∨ ys.length <= i)⟩
theorem Inv.seqB {X : Cx} {pins : List (Addr × Obj)} {σ : St} {H : Hp} {s : Shared} {tp : Bool} {a : Addr} {xs : List V} (I : Inv X pins σ H s) (h : SqB X.K tp H a xs) : ∃ its : List Value, Vals xs its /\ SeB tp s.heap a its.toArray /\ xs.length <= sizeLine := by
 cases tp with
 | true => obtain ⟨its, r, p, hz⟩ := I.tuple h; exact ⟨its, r, p, hz⟩
 | false => obtain ⟨its, r, p, hz⟩ := I.list h; exact ⟨its, r, p.isList, hz⟩
theorem Inv.seqB_inj {X : Cx} {pins : List (Addr × Obj)} {σ : St} {H : Hp} {s : Shared} {tp : Bool} {a : Addr} {xs ys : List V} (I : Inv X pins σ H s) (h : SqB X.K tp H a xs) (h' : SqB X.K tp H a ys) : xs = ys := by
 cases tp with
 | true => exact I.tuple_inj h h'
 | false => exact I.list_inj h h'
theorem xp5 {P : Program} {w : World} {K : PySem.W.Frag} {es : List Expr} {k : Nat} {pos : Pos} {p q : Bool} {z TI TO i1 i2 l1 l2 : Addr} (D : ZipApart z TI TO i1 i2 l1 l2) :
  Turn P w K (.Tuple es k pos) (Itz K p q l1 l2) [z, TI, TO, i1, i2] z (fun i h => IsZip h z TI TO .none /\ IsPair h TI (.ref i1) (.ref i2) /\ (∃ a b, IsPair h TO a b) /\ ItB p h i1 l1 i /\ ItB q h i2 l2 i) where
 mem := by simp
 obj := fun i h st b hb => by
  obtain ⟨hz, hTI, ⟨a, c, hTO⟩, h1, h2⟩ := st
  simp only [List.mem_cons, List.not_mem_nil, or_false] at hb
  rcases hb with rfl | rfl | rfl | rfl | rfl
  ·exact ⟨_, hz, fun v e => by
    have e' : Data.fields _ = Data.cell v := e
    cases e'⟩
  ·exact ⟨_, hTI, fun v e => by
    have e' : Data.seq _ _ = Data.cell v := e
    cases e'⟩
  ·exact ⟨_, hTO, fun v e => by
    have e' : Data.seq _ _ = Data.cell v := e
    cases e'⟩
  ·exact h1.obj
  ·exact h2.obj
 keep := fun i h h' st kp => by
  obtain ⟨hz, hTI, ⟨a, c, hTO⟩, h1, h2⟩ := st
  exact ⟨kp z (by simp) _ hz, kp TI (by simp) _ hTI, ⟨a, c, kp TO (by simp) _ hTO⟩, h1.at fun o e => kp i1 (by simp) o e, h2.at fun o e => kp i2 (by simp) o e⟩
 item := by
  intro X hP hw hK hc i pins s σ H E I hf st hg
  subst hP hw hK
  obtain ⟨xs, ys, x, y, hq1, hq2, hx, hy⟩ := hg
  obtain ⟨hz, hTI, ⟨a, c, hTO⟩, h1, h2⟩ := st
  obtain ⟨its1, rv1, p1, _⟩ := I.seqB hq1
  obtain ⟨its2, rv2, p2, _⟩ := I.seqB hq2
  obtain ⟨u1, hu1, ru1⟩ := rv1.get hx
  obtain ⟨u2, hu2, ru2⟩ := rv2.get hy
  have lt : ∀ {c o}, s.heap.get? c = some o -> s.heap.objs.size ≠ c := fun e => Nat.ne_of_gt (Heap.lt_size e)
  refine yk8 D hz hTI hTO h1 h2 p1 p2 (x := u1) (y := u2) (by simpa using hu1) (by simpa using hu2) fun h' hz' hTO' h1' h2' hT kk => ?_
  refine ⟨_, rfl, wpAny_letOwnedTupleGo_zip (s := { s with heap := h' }) hz' fun h'' hz'' hs'' => ?_⟩
  have hT2 : h''.get? s.heap.objs.size = some { cls := .type "tuple", data := .seq [u1, u2].toArray } := hs''.extBut _ _ (lt hz) hT
  have keep : ∀ b o, b ∉ [z, TI, TO, i1, i2] -> s.heap.get? b = some o -> h''.get? b = some o := fun b o hb e =>
   hs''.extBut _ _ (fun x => hb (by simp [x])) (kk b o (fun x => hb (by simp [x])) (fun x => hb (by simp [x])) (fun x => hb (by simp [x])) (fun x => hb (by simp [x])) e)
  have I1 : Inv X pins σ (upd H s.heap.objs.size (.tup [x, y])) { s with heap := h'' } := I.turnedNew (t' := s.toks) hf keep hT2 (.cons ru1 (.cons ru2 .nil)) (by show 2 <= sizeLine; decide)
  refine ⟨.ref s.heap.objs.size, _, I1, rfl, ⟨_, x, y, I.hok.fresh (Nat.le_refl _), rfl, rfl, fun ys' hy' => by rw [I.seqB_inj hy' hq1]; exact hx, fun ys' hy' => by rw [I.seqB_inj hy' hq2]; exact hy⟩,
   ⟨hz'', hs''.extBut _ _ D.TIz (kk _ _ D.TIz D.TITO D.TIi1 D.TIi2 hTI), ⟨_, _, hs''.extBut _ _ D.TOz hTO'⟩, h1'.at fun o e => hs''.extBut _ _ D.i1z e, h2'.at fun o e => hs''.extBut _ _ D.i2z e⟩, fun b hb => ?_⟩
  obtain ⟨o, e, _⟩ : ∃ o, s.heap.get? b = some o /\ True := by
   simp only [List.mem_cons, List.not_mem_nil, or_false] at hb
   rcases hb with rfl | rfl | rfl | rfl | rfl
   ·exact ⟨_, hz, trivial⟩
   ·exact ⟨_, hTI, trivial⟩
   ·exact ⟨_, hTO, trivial⟩
   ·obtain ⟨o, e, _⟩ := h1.obj; exact ⟨o, e, trivial⟩
   ·obtain ⟨o, e, _⟩ := h2.obj; exact ⟨o, e, trivial⟩
  rw [zb5 (Ne.symm (lt e))]
  exact (hf b hb).1
 done := by
  intro X hP hw hK hc i pins s σ H E I hf st hg
  subst hP hw hK
  obtain ⟨xs, ys, hq1, hq2, hx⟩ := hg
  obtain ⟨hz, hTI, ⟨a, c, hTO⟩, h1, h2⟩ := st
  obtain ⟨its1, rv1, p1, _⟩ := I.seqB hq1
  obtain ⟨its2, rv2, p2, _⟩ := I.seqB hq2
  have l1 := rv1.length
  have l2 := rv2.length
  refine ys7 (I.ok.hd hc) D hz hTI hTO h1 h2 p1 p2 ?_ fun h' kk => ⟨rfl, I.turnedAll (t' := s.toks) hf fun b o hb e => kk b o (fun x => hb (by simp [x])) (fun x => hb (by simp [x])) (fun x => hb (by simp [x])) (fun x => hb (by simp [x])) e⟩
  rcases hx with h | h
  ·exact .inl (Array.getElem?_eq_none (by simp; (rename_i q2_ q1_; clear q2_ q1_; clear l2; omega)))
  ·exact .inr (Array.getElem?_eq_none (by simp; (rename_i q2_ q1_; clear q2_ q1_; clear l1; omega)))
 self := fun _ _ _ _ _ st h => wpAny_pyIter_zip st.1 h
abbrev zt1 (h : Heap) (l1 : Addr) : Heap := h.push { cls := .type "tuple_iterator", data := .fields #[.ref l1, .int 0 0] }
abbrev zt2 (h : Heap) (l1 l2 : Addr) : Heap := (zt1 h l1).push { cls := .type "tuple_iterator", data := .fields #[.ref l2, .int 0 0] }
abbrev zt3 (h : Heap) (l1 l2 : Addr) : Heap := (zt2 h l1 l2).push { cls := .type "tuple", data := .seq #[.ref h.objs.size, .ref (zt1 h l1).objs.size] }
abbrev zt4 (h : Heap) (l1 l2 : Addr) : Heap := (zt3 h l1 l2).push { cls := .type "tuple", data := .seq #[.none, .none] }
abbrev zt5 (h : Heap) (l1 l2 : Addr) : Heap := (zt4 h l1 l2).push { cls := .type "zip", data := .fields #[.none, .bool false, .bool false, .ref (zt2 h l1 l2).objs.size, .ref (zt3 h l1 l2).objs.size] }
theorem yh2 (l1 l2 : Addr) (xs ys : Array Value) :
  Meets (Builtin.«zip.__new__» ⟨[.type "zip", .ref l1, .ref l2], []⟩) (fun _ R s => s.heap.IsTuple l1 xs /\ s.heap.IsTuple l2 ys /\ R (.ok (.ret (.ref (zt4 s.heap l1 l2).objs.size))) { s with heap := zt5 s.heap l1 l2 }) :=
 .of_wp fun prog w A R s h => by
  obtain ⟨hp, g, d, tk, os⟩ := s; obtain ⟨hl1, hl2, h⟩ := h
  have hsub := sub_zip
  have hL1 : Heap.IsTuple (Shared.heap ⟨hp, g, d, tk, os⟩) l1 xs := hl1
  have hL2 : Heap.IsTuple (Shared.heap ⟨hp.push { cls := .type "tuple_iterator", data := .fields #[.ref l1, .int 0 0] }, g, d, tk, os⟩) l2 ys := by
   obtain ⟨o, ho, r⟩ := hl2
   exact ⟨o, Heap.get?_push_of_some _ ho, r⟩
  wp_walk using wpAny_pyIter_tuple hL1, wpAny_pyIter_tuple hL2
  exact ⟨_, rfl, h⟩
theorem ym1 {prog : Program} {w : World} {A : Around} {E : Value -> Shared -> Prop} {s : Shared} {l1 l2 : Addr} {xs ys : Array Value} {Q : Value -> Shared -> Prop} (hl1 : s.heap.IsTuple l1 xs) (hl2 : s.heap.IsTuple l2 ys)
  (h : ∀ h', IsZip h' (s.heap.objs.size + 4) (s.heap.objs.size + 2) (s.heap.objs.size + 3) .none -> IsPair h' (s.heap.objs.size + 2) (.ref s.heap.objs.size) (.ref (s.heap.objs.size + 1)) ->
   IsPair h' (s.heap.objs.size + 3) .none .none -> h'.IsTupleIter s.heap.objs.size l1 0 -> h'.IsTupleIter (s.heap.objs.size + 1) l2 0 ->
   (∀ c o, s.heap.get? c = some o -> h'.get? c = some o) -> Q (.ref (s.heap.objs.size + 4)) { s with heap := h' }) :
  wpAny (model prog w) A (call (.type "zip") [.ref l1, .ref l2]) Q E s := by
 refine callType_new F.called_zip (by decide) (F.typeCall_zip_2 _ _) (F.newCall_zip_2 _ _) (fun obj => F.args_object_init_3 obj _ _) F.entry_zip_new (yh2 l1 l2 xs ys) ⟨hl1, hl2, ?_⟩
 have z1 : (zt1 s.heap l1).objs.size = s.heap.objs.size + 1 := Heap.size_push ..
 have z2 : (zt2 s.heap l1 l2).objs.size = s.heap.objs.size + 2 := by rw [Heap.size_push, z1]
 have z3 : (zt3 s.heap l1 l2).objs.size = s.heap.objs.size + 3 := by rw [Heap.size_push, z2]
 have z4 : (zt4 s.heap l1 l2).objs.size = s.heap.objs.size + 4 := by rw [Heap.size_push, z3]
 have up : ∀ c o, (zt1 s.heap l1).get? c = some o -> (zt5 s.heap l1 l2).get? c = some o := fun c o e => Heap.get?_push_of_some _ (Heap.get?_push_of_some _ (Heap.get?_push_of_some _ (Heap.get?_push_of_some _ e)))
 have g5 : (zt5 s.heap l1 l2).get? (zt4 s.heap l1 l2).objs.size = some _ := Heap.get?_push_size _ rfl
 have g4 : (zt5 s.heap l1 l2).get? (zt3 s.heap l1 l2).objs.size = some _ := Heap.get?_push_of_some _ (Heap.get?_push_size _ rfl)
 have g3 : (zt5 s.heap l1 l2).get? (zt2 s.heap l1 l2).objs.size = some _ := Heap.get?_push_of_some _ (Heap.get?_push_of_some _ (Heap.get?_push_size _ rfl))
 have g2 : (zt5 s.heap l1 l2).get? (zt1 s.heap l1).objs.size = some _ := Heap.get?_push_of_some _ (Heap.get?_push_of_some _ (Heap.get?_push_of_some _ (Heap.get?_push_size _ rfl)))
 have g1 : (zt5 s.heap l1 l2).get? s.heap.objs.size = some _ := up _ _ (Heap.get?_push_size _ rfl)
 show _ /\ _
 rw [z2, z3, z4] at g5
 rw [z1, z2] at g3
 rw [z3] at g4
 rw [z1] at g2
 rw [z4]
 exact ⟨⟨_, g5, rfl⟩, h _ g5 g3 g4 ⟨_, g1, rfl, rfl⟩ ⟨_, g2, rfl, rfl⟩ fun c o x => up c o (Heap.get?_push_of_some _ x)⟩
def iZip (K : PySem.W.Frag) (p : Bool) (ta : TA) : TI := fun σ H R => ta σ H fun vs H1 => ∃ a b xs ys, vs = [.ref a, .ref b] /\ SqB K p H1 a xs /\ SqB K p H1 b ys /\ R (Itz K p p a b) H1
theorem boot_zip : bootBuiltins "zip" = some (.type "zip") := by first | exact PySem.boot_zip | decide +kernel
theorem pi_zip {X : Cx} {p : Bool} {es : List Expr} {k : Nat} {tpos : Pos} {a b : Expr} {ta : TA} {pp pos : Pos} (hg : Gl X "zip") (hm : X.mg "zip" = none) (ha : PA X [a, b] ta)
  (hs : starEach [a, b] X.env = [(false, eval a X.env), (false, eval b X.env)] := by rfl) (hs2 : starEach [b] X.env = [(false, eval b X.env)] := by rfl) :
  PI X (.Tuple es k tpos) (.Call (.Name "zip" pp) [a, b] [] pos) (iZip X.K p ta) := by
 intro pins s σ H R I h
 refine Call_ (zr2 I hg hm boot_zip (PyProof.Rows.callWith_type1 (thn (ha pos pins s σ H _ I h) fun us s1 ⟨vs, H1, I1, r1, q1⟩ => ?_) (by rw [hs, hs2]) (by rw [hs2]; rfl)))
 obtain ⟨l1, l2, xs, ys, e, hq1, hq2, q⟩ := q1
 subst e
 cases r1 with
 | cons r rr =>
  cases rr with
  | cons r' rr =>
   cases rr
   cases r
   cases r'
   obtain ⟨its1, rv1, p1, _⟩ := I1.seqB hq1
   obtain ⟨its2, rv2, p2, _⟩ := I1.seqB hq2
   have hlt : ∀ {tp : Bool} {l : Addr} {its : Array Value}, SeB tp s1.heap l its -> l < s1.heap.objs.size := fun {tp l its} h => by
    cases tp with
    | true => obtain ⟨o, e, _⟩ := (show s1.heap.IsTuple l its from h); exact Heap.lt_size e
    | false => obtain ⟨o, e, _⟩ := (show s1.heap.IsList l its from h); exact Heap.lt_size e
   have D : ZipApart (s1.heap.objs.size + 4) (s1.heap.objs.size + 2) (s1.heap.objs.size + 3) s1.heap.objs.size (s1.heap.objs.size + 1) l1 l2 := zipApart_new (hlt p1) (hlt p2)
   have fin : ∀ h', IsZip h' (s1.heap.objs.size + 4) (s1.heap.objs.size + 2) (s1.heap.objs.size + 3) .none -> IsPair h' (s1.heap.objs.size + 2) (.ref s1.heap.objs.size) (.ref (s1.heap.objs.size + 1)) ->
     IsPair h' (s1.heap.objs.size + 3) .none .none -> ItB p h' s1.heap.objs.size l1 0 -> ItB p h' (s1.heap.objs.size + 1) l2 0 -> (∀ c o, s1.heap.get? c = some o -> h'.get? c = some o) ->
     wpAny (model X.prog X.w) X.A (pyIter (.ref (s1.heap.objs.size + 4))) (PIE X pins σ (.Tuple es k tpos) R) X.xe { s1 with heap := h' } := fun h' hz hTI hTO h1 h2 kk => by
    refine wpAny_pyIter_zip (s := { s1 with heap := h' }) hz ?_
    refine ⟨_, _, _, _, H1, rfl, I1.kept (t' := s1.toks) kk, xp5 D, ⟨hz, hTI, ⟨_, _, hTO⟩, h1, h2⟩, fun b hb => ?_, q⟩
    have hge : s1.heap.objs.size <= b := by
     simp only [List.mem_cons, List.not_mem_nil, or_false] at hb
     rcases hb with rfl | rfl | rfl | rfl | rfl
     ·exact Nat.le_add_right _ _
     ·exact Nat.le_add_right _ _
     ·exact Nat.le_add_right _ _
     ·exact Nat.le_refl _
     ·exact Nat.le_add_right _ _
    exact I1.fpOk hge (I1.hok.fresh hge)
   cases p with
   | true => exact ym1 p1 p2 fun h' hz hTI hTO h1 h2 kk => fin h' hz hTI hTO h1 h2 kk
   | false => exact call_zip_2 p1 p2 fun h' hz hTI hTO h1 h2 _ kk => fin h' hz hTI hTO h1 h2 kk
end L2
end
section
namespace L2
open PySem PySem.Spec PyProof.Rows
theorem zz7 : typeLookup (.type "list") "keys" = pure none := by rw [typeLookup_type, builtinLookup_eq_fast]; kernel_rfl
theorem xv7 {prog : Program} {w : World} {A : Around} {E : Value -> Shared -> Prop} {s : Shared} {a : Addr} {o : Obj} {xs : Array Value} {k : Nat} {Q : Option Value -> Shared -> Prop}
  (hx : s.heap.get? a = some o) (hc : o.cls = .type "list") (hdat : o.data = .seq xs k) (hd : o.dict = none) (hA : A.handled = none)
  (h : ∀ h' tk, (∀ b ob, s.heap.get? b = some ob -> h'.get? b = some ob) -> Q none { s with heap := h', toks := tk }) :
  wpAny (model prog w) A (getAttr? (.ref a) "keys") Q E s := by
 obtain ⟨c, dct, dat, sl⟩ := o
 simp only at hc hdat hd
 subst hc hdat hd
 obtain ⟨hp, g, d, tk, os⟩ := s
 have hT : ∀ tk', (⟨hp, g, d, tk', os⟩ : Shared).TypeIs (.ref a) "list" := fun _ => ⟨_, hx, rfl⟩
 have f1 := sub_AttributeError
 have f3 := F.slot_list_getattribute.lookup
 have f4 := F.slot_list_getattribute.bind (.ref a)
 have f5 := am_list_getattr_none
 unfold getAttr? getAttrBy? getAttrBy
 repeat (any_goals (first | assumption | exact hT _ | ((with_reducible show wpAny _ _ (call (Value.builtin "list.__getattribute__") _ _) _ _ _); refine call_meets F.slot_list_getattribute (hT _) am_entry_list_getattribute (F.args_list_getattribute_2 _ _) (meets_getattribute_miss_list a xs k sl "keys" _ zz7 (by decide) (by size_fits)) ⟨hx, hA, fun h' tk' e hx' => ?_⟩) | wp_step))
 obtain ⟨t', u', he⟩ := hx'.there
 show wpAny _ _ (getattributeRaised _ _ _ _ _ _ _) _ _ _
 unfold getattributeRaised
 repeat (any_goals (first | assumption | wp_step))
 exact h h' tk' hx'.of.keeps
theorem zr5 : plainId "dict.update.loop" = true := by decide +kernel
theorem yj9 : entryFor table "dict.update.loop" = some Builtin.«dict.update.loop» := entryFor_of_fast (by kernel_rfl)
def xz1 (h : Heap) (its : List Value) (kvs : List (Key × V)) : Prop := its.length = kvs.length /\ ∀ (j : Nat) p, kvs[j]? = some p -> ∃ T kv vv, its[j]? = some (.ref T) /\ h.IsTuple T #[kv, vv] /\ zs5 p.1 kv = true /\ RelV p.2 vv
theorem yh7 {kvs : List (Key × V)} {j : Nat} {p : Key × V} (h : kvs[j]? = some p) : zg3 [] (kvs.take (j + 1)) = putK (zg3 [] (kvs.take j)) p.1 p.2 := by
 unfold zg3
 rw [List.take_add_one, h, List.foldl_append]
 rfl
theorem xp0 {prog : Program} {w : World} {A : Around} {R : Result -> Shared -> Prop} {D it l : Addr} {its : List Value} {kvs : List (Key × V)} (hh : A.handled = none) (hlD : l ≠ D) (hli : l ≠ it) (hDi : D ≠ it) (hz : kvs.length < sizeLine) :
  ∀ (n j : Nat) (s : Shared) (vs : List (Key × Value)), kvs.length - j = n -> j <= kvs.length -> s.heap.IsListIter it l j -> s.heap.IsList l its.toArray -> xz1 s.heap its kvs -> (∀ T, Value.ref T ∈ its -> T ≠ D /\ T ≠ it) ->
  s.heap.DictOf (zd0 prog w) D vs -> KV (zg3 [] (kvs.take j)) vs ->
  (∀ h' tk vs', h'.DictOf (zd0 prog w) D vs' -> KV (zg3 [] kvs) vs' -> (∀ b o, b ≠ D -> b ≠ it -> s.heap.get? b = some o -> h'.get? b = some o) -> R (.ok (.ret .none)) { s with heap := h', toks := tk }) ->
  codeAny (model prog w) A (.builtin "dict.update.loop" ⟨[.ref D, .ref it, rawInt j, .none], []⟩) R s := by
 intro n
 induction n with
 | zero =>
  intro j s vs hn hj hit hl hp hT hd hk hR
  have e : j = kvs.length := by omega
  subst e
  refine codeAny_builtin yj9 ?_
  rw [Around.under_plainId zr5 _]
  show wpAny _ A.in1 (pyNext (.ref it) >>= _) _ _ s
  refine wpAny_bind (wpAny_pyNext_list_end (A := A.in1) hh hit hl (by simp [hp.1]) fun h' eb => ?_)
  show wpAny _ A.in1 (Builtin.Dict.addKeywords D [] >>= _) _ _ _
  refine wpAny_bind (wpAny_pure (wpAny_pure (hR h' s.toks vs ?_ ?_ fun b o h1 h2 e => eb b o h2 e)))
  ·exact hd.at fun o e => eb D o hDi e
  ·rw [List.take_of_length_le (Nat.le_refl _)] at hk; exact hk
 | succ n ih =>
  intro j s vs hn hj hit hl hp hT hd hk hR
  have hlt : j < kvs.length := by omega
  obtain ⟨T, kv, vv, hi, ht, hkey, rv⟩ := hp.2 j kvs[j] (List.getElem?_eq_getElem hlt)
  obtain ⟨hTD, hTi⟩ := hT T (List.mem_of_getElem? hi)
  refine codeAny_builtin yj9 ?_
  rw [Around.under_plainId zr5 _]
  show wpAny _ A.in1 (pyNext (.ref it) >>= _) _ _ s
  refine wpAny_bind (wpAny_pyNext_list_item (A := A.in1) hit hl (x := .ref T) (by simpa using hi) fun h' hit' sb => ?_)
  have ht' : h'.IsTuple T #[kv, vv] := by obtain ⟨o, e, r⟩ := ht; exact ⟨o, sb.extBut _ _ hTi e, r⟩
  have hd' : h'.DictOf (zd0 prog w) D vs := hd.at fun o e => sb.extBut _ _ hDi e
  obtain ⟨ot, eo, ec, nt, ed⟩ := id ht'
  have hvl : vs.length <= sizeLine := by
   have h1 := hk.length
   have h2 := zj1 (kvs.take j) []
   rw [List.length_take] at h2
   simp at h2
   omega
  show wpAny _ A.in1 (holding [.ref T] _ >>= _) _ _ { s with heap := h' }
  refine wpAny_bind (wpAny_holding (wpAny_bind (wpAny_tryCatch ?_)))
  unfold Builtin.Dict.pairItems
  refine wpAny_bind (wpAny_typeOf (T := "tuple") ⟨ot, eo, ec⟩ ?_)
  rw [if_pos (by decide)]
  refine wpAny_bind (wpAny_seqItems eo ed (wpAny_pure ?_))
  show wpAny _ A.in1 (holding [kv, vv] (dictSet D kv vv)) _ _ _
  refine wpAny_holding (wpAny_dictSet_pairs (knd := zd0 prog w) (k := kvs[j].1) (hsz := hvl) hkey hd' fun h2 hd2 sb2 => ?_)
  refine wpAny_pure ⟨plainId_quiet zr5 _, ?_⟩
  have keep2 : ∀ b o, b ≠ D -> b ≠ it -> s.heap.get? b = some o -> h2.get? b = some o := fun b o h1 h3 e => sb2.extBut _ _ h1 (sb.extBut _ _ h3 e)
  refine ih (j + 1) { s with heap := h2, toks := s.toks + 1 } _ (by omega) hlt (hit'.at fun o e => sb2.extBut _ _ (Ne.symm hDi) e) (hl.at fun o e => keep2 l o hlD hli e) ⟨hp.1, fun j' p hj' => ?_⟩ hT hd2 ?_ fun h3 tk vs' hd3 hk3 kk => ?_
  ·obtain ⟨T', kv', vv', hi', ht', hkey', rv'⟩ := hp.2 j' p hj'
   obtain ⟨q1, q2⟩ := hT T' (List.mem_of_getElem? hi')
   obtain ⟨o, e, r⟩ := ht'
   exact ⟨T', kv', vv', hi', ⟨o, keep2 _ _ q1 q2 e, r⟩, hkey', rv'⟩
  ·rw [yh7 (List.getElem?_eq_getElem hlt)]
   exact hk.put _ rv
  ·exact hR h3 tk vs' hd3 hk3 fun b o h1 h4 e => kk b o h1 h4 (keep2 b o h1 h4 e)
section
variable {X : Cx}
def rDictL (K : PySem.W.Frag) : List V -> Hp -> VK -> Prop := fun xs H Q => ∃ (p : Addr) (ts : List Addr) (kvs : List (Key × V)), xs = [.ref p] /\ SqL K H p (ts.map V.ref) /\ ts.length = kvs.length /\ kvs.length < sizeLine /\
 (∀ (j : Nat) t kv, ts[j]? = some t -> kvs[j]? = some kv -> SqT K H t [kV kv.1, kv.2]) /\ ∀ l, H l = none -> Q (.ref l) (upd H l (.dK (zg3 [] kvs)))
theorem zj3 (hc : X.calm = true) : CallR X (.type "dict") (rDictL X.K) := by
 intro pins s σ H xs us Q I r h
 obtain ⟨p, ts, kvs, rfl, hq, hlen, hzk, hpair, q⟩ := h
 obtain ⟨u, rfl, rx⟩ := zx1 r
 cases rx
 obtain ⟨its, rv, pl, hz⟩ := I.list hq
 obtain ⟨ol, nl, hol, hcl, hdict, hdl⟩ := id pl
 have hplt : p < s.heap.objs.size := Heap.lt_size hol
 have hil : its.length = ts.length := by have := rv.length; rw [lqm] at this; exact this.symm
 have hit : ∀ (j : Nat) t, ts[j]? = some t -> its[j]? = some (.ref t) := fun j t e => by
  obtain ⟨u, hu, ru⟩ := rv.get (i := j) (x := V.ref t) (by rw [List.getElem?_map, e]; rfl)
  cases ru
  exact hu
 refine callType_codes (Q₁ := fun obj s₁ => obj = .ref s.heap.objs.size /\ s₁ = { s with heap := s.heap.push { cls := .type "dict", data := .dict #[] } }) F.kt_called_dict (F.kt_typeCall_dict_1 _) F.entry_dict_init (kt_code_dict_new _ ⟨rfl, rfl⟩) ?_
 rintro obj s₁ ⟨rfl, rfl⟩
 have hnew : (s.heap.push { cls := .type "dict", data := .dict #[] }).DictOf (zd0 X.prog X.w) s.heap.objs.size [] := Heap.DictOf.new s.heap
 refine ⟨hnew.typeIs, F.args_dict_init_2 _ _, ?_⟩
 unfold Builtin.«dict.__init__»
 refine wpAny_bind ?_
 unfold Builtin.Dict.selfAndRest
 refine wpAny_bind (wpAny_notOrdered_dict hnew.typeIs ?_)
 show wpAny _ _ (pure (s.heap.objs.size, [Value.ref p])) _ _ _
 refine wpAny_pure ?_
 show wpAny _ _ (Builtin.Dict.updateFrom "dict.__init__" s.heap.objs.size (.ref p) [] .none) _ _ _
 unfold Builtin.Dict.updateFrom
 have ho1 : (s.heap.push { cls := .type "dict", data := .dict #[] }).get? p = some ol := Heap.get?_push_of_some _ hol
 refine wpAny_bind (wpAny_typeOf (T := "list") ⟨ol, ho1, hcl⟩ ?_)
 rw [if_pos (by decide)]
 refine wpAny_bind (xv7 (A := X.A.in1.in1) ho1 hcl hdl hdict (I.ok.hd hc) fun h2 tk2 kk2 => ?_)
 show wpAny _ _ (rule _ >>= _) _ _ _
 refine wpAny_bind (wpAny_rule ?_)
 have keep2 : ∀ b o, s.heap.get? b = some o -> h2.get? b = some o := fun b o e => kk2 b o (Heap.get?_push_of_some _ e)
 have hl2 : h2.IsList p its.toArray := pl.isList.at fun o e => keep2 p o e
 have hD2 : h2.DictOf (zd0 X.prog X.w) s.heap.objs.size [] := hnew.at fun o e => kk2 _ o e
 have hDlt : s.heap.objs.size < h2.objs.size := by obtain ⟨_, _, _, e, _⟩ := hD2; exact Heap.lt_size e
 refine wpAny_bind (wpAny_pyIter_list (s := { s with heap := h2, toks := tk2 }) hl2 (wpAny_pure ⟨plainId_quiet zr5 _, ?_⟩))
 have keep3 : ∀ b o, s.heap.get? b = some o -> (h2.push { cls := .type "list_iterator", data := .fields #[.ref p, .int 0 0] }).get? b = some o := fun b o e => Heap.get?_push_of_some _ (keep2 b o e)
 have hTlt : ∀ (j : Nat) t, ts[j]? = some t -> t < s.heap.objs.size /\ ∃ kv kvv vv, kvs[j]? = some kv /\ s.heap.IsTuple t #[kvv, vv] /\ zs5 kv.1 kvv = true /\ RelV kv.2 vv := fun j t e => by
  obtain ⟨hj, _⟩ := List.getElem?_eq_some_iff.mp e
  have hk : kvs[j]? = some kvs[j] := List.getElem?_eq_getElem (by omega)
  obtain ⟨itt, rt, pt, _⟩ := I.tuple (hpair j t _ e hk)
  cases rt with
  | cons r1 rr =>
   cases rr with
   | cons r2 rr =>
    cases rr
    obtain ⟨o, eo, rest⟩ := id pt
    exact ⟨Heap.lt_size eo, _, _, _, hk, pt, yf6 (P := X.prog) (w := X.w) r1, r2⟩
 refine xp0 (A := X.A.in1) (I.ok.hd hc) (its := its) (kvs := kvs) (Nat.ne_of_lt hplt) (Nat.ne_of_lt (Nat.lt_trans hplt hDlt)) (Nat.ne_of_lt hDlt) hzk kvs.length 0 _ [] (by simp) (Nat.zero_le _) ⟨_, Heap.get?_push_size _ rfl, rfl, rfl⟩ (hl2.at fun o e => Heap.get?_push_of_some _ e) ⟨by omega, fun j kv hj => ?_⟩ (fun T hT => ?_)
  (hD2.at fun o e => Heap.get?_push_of_some _ e) .nil fun h' tk vs' hd' hk' kk => ?_
 ·obtain ⟨hj', _⟩ := List.getElem?_eq_some_iff.mp hj
  have ht : ts[j]? = some ts[j] := List.getElem?_eq_getElem (by omega)
  obtain ⟨_, kv', a, b, h1, h2', h3, h4⟩ := hTlt j _ ht
  rw [hj] at h1
  cases h1
  obtain ⟨o, e, r⟩ := h2'
  exact ⟨_, a, b, hit j _ ht, ⟨o, keep3 _ _ e, r⟩, h3, h4⟩
 ·obtain ⟨j, hj, e⟩ := List.getElem_of_mem hT
  have ht : ts[j]? = some ts[j] := List.getElem?_eq_getElem (by omega)
  have := hit j _ ht
  rw [List.getElem?_eq_getElem hj, e] at this
  cases this
  have := (hTlt j _ ht).1
  exact ⟨Nat.ne_of_lt this, Nat.ne_of_lt (Nat.lt_trans this hDlt)⟩
 ·refine ⟨rfl, ⟨.ref s.heap.objs.size, _, ?_, rfl, q _ (I.hok.fresh (Nat.le_refl _))⟩⟩
  have hzm : (zg3 [] kvs).length <= sizeLine := by
   have := zj1 kvs []
   simp at this
   omega
  have hsys : (s.heap.objs.size == sysModules) = false := by
   have := I.big
   simpa using Nat.ne_of_gt this
  exact I.laid (t' := tk) (o := .dK (zg3 [] kvs)) (fun b o e => kk b o (Nat.ne_of_lt (Heap.lt_size e)) (Nat.ne_of_lt (Nat.lt_trans (Heap.lt_size e) hDlt)) (keep3 b o e)) (Nat.le_refl _) ⟨hzm, hsys, vs', hk', hd'⟩
end
end L2
end
section
namespace L2
open PySem PySem.Spec PyProof.Rows
section
variable {X : Cx}
variable {tg : Expr}
end
end L2
end
section
namespace L2
open PySem PySem.Spec PyProof.Rows
theorem Inv.laidMany {X : Cx} {pins : List (Addr × Obj)} {σ : St} {H H' : Hp} {s : Shared} {h' : Heap} {t' : Nat} (I : Inv X pins σ H s) (keep : ∀ b o, s.heap.get? b = some o -> h'.get? b = some o)
  (agree : ∀ b, b < s.heap.objs.size -> H' b = H b) (hok : HOk X.prog X.w H' h') : Inv X pins σ H' { s with heap := h', toks := t' } := by
 have I0 : Inv X pins σ H { s with heap := h', toks := t' } := I.kept (t' := t') keep
 have old : ∀ b o', X.s₀.heap.get? b = some o' -> b < s.heap.objs.size := fun b o' e => Nat.lt_of_lt_of_le (Heap.lt_size e) I.sz
 have lt : ∀ b u, H b = some u -> b < s.heap.objs.size := fun b u e => by
  rcases Nat.lt_or_ge b s.heap.objs.size with h | h
  ·exact h
  ·rw [I.hok.fresh h] at e; cases e
 have base := I0.base
 refine ⟨I0.ok, I0.os, I0.bare, ⟨base.keep, base.slot, fun b ob q n hx => ?_, base.there, fun b ys q => ?_, fun b ob y q => ?_, fun b ps q => ?_⟩, I0.loc, I0.cell, ?_, fun y c h => ?_, fun p hp => ?_, hok, I0.len⟩
 ·rw [agree b (old b ob q)]; exact base.free b ob q n hx
 ·have := base.tups b ys q
  rw [agree b (lt b _ this)]; exact this
 ·have := base.frzs b ob y q
  rw [agree b (lt b _ this)]; exact this
 ·obtain ⟨m, this⟩ := base.tbls b ps q
  exact ⟨m, by rw [agree b (lt b _ this)]; exact this⟩
 ·rw [agree _ I.lt]; exact I.free
 ·obtain ⟨v, q⟩ := I.cell y c h
  rw [agree _ q.lt]; exact I.freeC y c h
 ·obtain ⟨e1, e2, e3⟩ := I0.pin p hp
  have := Heap.lt_size (I.pin p hp).1
  exact ⟨e1, by rw [agree _ this]; exact e2, e3⟩
abbrev zx0 (h : Heap) (z TI TO T : Addr) (f : Bool) : Prop :=
 h.get? z = some { cls := .type "zip", dict := none, data := .fields #[rawInt T, .bool f, .bool false, .ref TI, .ref TO], slots := #[] }
section
variable {prog : Program} {w : World} {A : Around} {E : Value -> Shared -> Prop} {s : Shared}
theorem zz4 {z TI TO T : Addr} {f : Bool} {oT : Obj} {Q : Bool -> Shared -> Prop} (hz : zx0 s.heap z TI TO T f) (hT : s.heap.get? T = some oT)
  (h : ∀ h₁, zx0 h₁ z TI TO T true -> Heap.SameBut z s.heap h₁ -> Q false { s with heap := h₁ }) : wpAny (model prog w) A (Builtin.SmallTypes.ownedTupleIsFree (.ref z)) Q E s := by
 unfold Builtin.SmallTypes.ownedTupleIsFree
 refine wpAny_bind (wpAny_field hz rfl (x := rawInt T) rfl ?_)
 show wpAny _ _ (loadIfAlive ((T : Int).toNat) >>= _) _ _ _
 rw [Int.toNat_natCast]
 refine wpAny_bind (PySem.W.kdx_alive hT ?_)
 show wpAny _ _ (field (.ref z) 1 >>= _) _ _ s
 refine wpAny_bind (wpAny_field hz rfl (x := .bool f) rfl ?_)
 cases f with
 | true => exact wpAny_pure (h s.heap hz (Heap.SameBut.refl _ _))
 | false => exact wpAny_bind (wpAny_setField_rec hz (by simp) fun h₁ hz₁ hs₁ => wpAny_pure (h h₁ hz₁ hs₁))
theorem yz0 {z TI TO i1 i2 l1 l2 T : Addr} {f : Bool} {oT : Obj} {k : Nat} {xs ys : Array Value} {x y : Value} {Q : Option Value -> Shared -> Prop} (D : ZipApart z TI TO i1 i2 l1 l2)
  (hz : zx0 s.heap z TI TO T f) (hT : s.heap.get? T = some oT) (hTI : IsPair s.heap TI (.ref i1) (.ref i2))
  (h1 : s.heap.IsListIter i1 l1 k) (h2 : s.heap.IsListIter i2 l2 k) (hl1 : s.heap.IsList l1 xs) (hl2 : s.heap.IsList l2 ys) (hx : xs[k]? = some x) (hy : ys[k]? = some y)
  (hQ : ∀ h', zx0 h' z TI TO T true -> h'.IsListIter i1 l1 (k + 1) -> h'.IsListIter i2 l2 (k + 1) -> IsPair h' s.heap.objs.size x y ->
   (∀ c o, c ≠ z -> c ≠ i1 -> c ≠ i2 -> s.heap.get? c = some o -> h'.get? c = some o) -> Q (some (.ref s.heap.objs.size)) { s with heap := h' }) :
  wpAny (model prog w) A (pyNext (.ref z)) Q E s := by
 have ty : s.TypeIs (.ref z) "zip" := ⟨_, hz, rfl⟩
 unfold pyNext
 refine wpAny_bind (wpAny_attempt (wpAny_callSpecial?_slot (name := Str.ofString "__next__") ty F.slot_zip_next (wpAny_call_entry F.slot_zip_next ty F.entry_zip_next ?_ (F.args_zip_next_1 _))))
 show wpAny _ _ (field (.ref z) 2 >>= _) _ _ s
 refine wpAny_bind (wpAny_field hz rfl (x := .bool false) rfl ?_)
 show wpAny _ _ (field (.ref z) 3 >>= _) _ _ s
 refine wpAny_bind (wpAny_field hz rfl (x := .ref TI) rfl (wpAny_bind (wpAny_seqItems hTI rfl ?_)))
 show wpAny _ _ (Builtin.SmallTypes.ownedTupleIsFree (.ref z) >>= _) _ _ s
 refine wpAny_bind (zz4 hz hT fun h₁ hz₁ hs₁ => ?_)
 simp only [Bool.false_eq_true, if_false]
 refine wpAny_bind ?_
 simp only [List.forIn_toArray, List.forIn_cons, List.forIn_nil]
 refine wpAny_bind (wpAny_bind (wpAny_holding ?_))
 show wpAny _ _ (Builtin.SmallTypes.nextOf (.ref i1) >>= _) _ _ _
 refine wpAny_bind (zp2 (tp := false) (h1.at fun o e => hs₁.extBut _ _ D.i1z e) (hl1.at fun o e => hs₁.extBut _ _ D.l1z e) hx fun h₂ h1₂ hs₂ => wpAny_pure ?_)
 refine wpAny_pure ?_
 refine wpAny_bind (wpAny_bind (wpAny_holding ?_))
 show wpAny _ _ (Builtin.SmallTypes.nextOf (.ref i2) >>= _) _ _ _
 refine wpAny_bind (zp2 (tp := false) (h2.at fun o e => hs₂.extBut _ _ D.i12.symm (hs₁.extBut _ _ D.i2z e)) (hl2.at fun o e => hs₂.extBut _ _ D.l2i1 (hs₁.extBut _ _ D.l2z e)) hy fun h₃ h2₃ hs₃ => wpAny_pure ?_)
 refine wpAny_pure (wpAny_pure ?_)
 have hsz : h₃.objs.size = s.heap.objs.size := by rw [hs₃.1, hs₂.1, hs₁.1]
 show wpAny _ _ (newTuple [x, y] >>= _) _ _ _
 refine wpAny_bind (wpAny_newTuple ?_)
 refine wpAny_pure ⟨_, rfl, ?_⟩
 show wpAny _ _ (pure (some (Value.ref h₃.objs.size))) _ _ _
 refine wpAny_pure ?_
 have up : ∀ c o, c ≠ z -> c ≠ i1 -> c ≠ i2 -> s.heap.get? c = some o -> (h₃.push { cls := .type "tuple", data := .seq #[x, y] }).get? c = some o := fun c o c1 c2 c3 e => Heap.get?_push_of_some _ (hs₃.extBut _ _ c3 (hs₂.extBut _ _ c2 (hs₁.extBut _ _ c1 e)))
 have hT₃ : IsPair (h₃.push { cls := .type "tuple", data := .seq #[x, y] }) h₃.objs.size x y := Heap.get?_push_size _ rfl
 rw [hsz] at hT₃ ⊢
 refine hQ _ (Heap.get?_push_of_some _ (hs₃.extBut _ _ D.i2z.symm (hs₂.extBut _ _ D.i1z.symm hz₁))) ?_ ?_ hT₃ up
 ·exact (show Heap.IsListIter h₂ i1 l1 (k + 1) from h1₂).at fun o e => Heap.get?_push_of_some _ (hs₃.extBut _ _ D.i12 e)
 ·exact (show Heap.IsListIter h₃ i2 l2 (k + 1) from h2₃).at fun o e => Heap.get?_push_of_some _ e
theorem xq6 {z TI TO i1 i2 l1 l2 T : Addr} {f : Bool} {oT : Obj} {k : Nat} {xs : Array Value} {Q : Option Value -> Shared -> Prop} (hh : A.handled = none) (D : ZipApart z TI TO i1 i2 l1 l2)
  (hz : zx0 s.heap z TI TO T f) (hT : s.heap.get? T = some oT) (hTI : IsPair s.heap TI (.ref i1) (.ref i2))
  (h1 : s.heap.IsListIter i1 l1 k) (hl1 : s.heap.IsList l1 xs) (hx : xs[k]? = none)
  (hQ : ∀ h', (∀ c o, c ≠ z -> c ≠ i1 -> s.heap.get? c = some o -> h'.get? c = some o) -> Q none { s with heap := h' }) : wpAny (model prog w) A (pyNext (.ref z)) Q E s := by
 have ty : s.TypeIs (.ref z) "zip" := ⟨_, hz, rfl⟩
 unfold pyNext
 refine wpAny_bind (wpAny_attempt (wpAny_callSpecial?_slot (name := Str.ofString "__next__") ty F.slot_zip_next (wpAny_call_entry F.slot_zip_next ty F.entry_zip_next ?_ (F.args_zip_next_1 _))))
 show wpAny _ _ (field (.ref z) 2 >>= _) _ _ s
 refine wpAny_bind (wpAny_field hz rfl (x := .bool false) rfl ?_)
 show wpAny _ _ (field (.ref z) 3 >>= _) _ _ s
 refine wpAny_bind (wpAny_field hz rfl (x := .ref TI) rfl (wpAny_bind (wpAny_seqItems hTI rfl ?_)))
 show wpAny _ _ (Builtin.SmallTypes.ownedTupleIsFree (.ref z) >>= _) _ _ s
 refine wpAny_bind (zz4 hz hT fun h₁ hz₁ hs₁ => ?_)
 simp only [Bool.false_eq_true, if_false]
 refine wpAny_bind ?_
 simp only [List.forIn_toArray, List.forIn_cons, List.forIn_nil]
 refine wpAny_bind (wpAny_bind (wpAny_holding ?_))
 show wpAny _ _ (Builtin.SmallTypes.nextOf (.ref i1) >>= _) _ _ _
 refine wpAny_bind (yd7 (tp := false) hh (h1.at fun o e => hs₁.extBut _ _ D.i1z e) (hl1.at fun o e => hs₁.extBut _ _ D.l1z e) hx fun h₂ e hs₂ he => ?_)
 obtain ⟨oe, hoe, hce⟩ := he
 exact wpAny_bind (wpAny_isInstance (T := "StopIteration") (b := true) ⟨oe, hoe, hce⟩ isSubtype_stop (wpAny_pure (hQ _ fun c o c1 c2 q => hs₂ _ _ c2 (hs₁.extBut _ _ c1 q))))
structure ZipSt (h : Heap) (S z TI TO i1 i2 l1 l2 : Addr) (xs ys : List Value) (i : Nat) (ts : List Addr) : Prop where
 zs : (ts = [] /\ IsZip h z TI TO .none) ∨ ∃ T f, T ∈ ts /\ zx0 h z TI TO T f
 tI : IsPair h TI (.ref i1) (.ref i2)
 tO : ∃ a b, IsPair h TO a b
 a1 : h.IsListIter i1 l1 i
 a2 : h.IsListIter i2 l2 i
 b1 : h.IsList l1 xs.toArray
 b2 : h.IsList l2 ys.toArray
 len : ts.length = i
 nd : ts.Nodup
 up : ∀ t ∈ ts, S < t
 prs : ∀ (j : Nat) t, ts[j]? = some t -> ∃ x y, xs[j]? = some x /\ ys[j]? = some y /\ IsPair h t x y
theorem ZipSt.move {h h' : Heap} {S z TI TO i1 i2 l1 l2 : Addr} {xs ys : List Value} {i : Nat} {ts : List Addr} (q : ZipSt h S z TI TO i1 i2 l1 l2 xs ys i ts) (hS : z ≠ S /\ TI ≠ S /\ TO ≠ S /\ i1 ≠ S /\ i2 ≠ S /\ l1 ≠ S /\ l2 ≠ S)
  (k : ∀ b o, b ≠ S -> h.get? b = some o -> h'.get? b = some o) : ZipSt h' S z TI TO i1 i2 l1 l2 xs ys i ts := by
 obtain ⟨n1, n2, n3, n4, n5, n6, n7⟩ := hS
 obtain ⟨zs, tI, ⟨a, b, tO⟩, a1, a2, b1, b2, len, nd, up, prs⟩ := q
 refine ⟨?_, k _ _ n2 tI, ⟨a, b, k _ _ n3 tO⟩, a1.at fun o e => k _ o n4 e, a2.at fun o e => k _ o n5 e, b1.at fun o e => k _ o n6 e, b2.at fun o e => k _ o n7 e, len, nd, up, fun j t e => ?_⟩
 ·rcases zs with ⟨e, q⟩ | ⟨T, f, hT, q⟩
  ·exact .inl ⟨e, k _ _ n1 q⟩
  ·exact .inr ⟨T, f, hT, k _ _ n1 q⟩
 ·obtain ⟨x, y, e1, e2, e3⟩ := prs j t e
  exact ⟨x, y, e1, e2, k _ _ (Nat.ne_of_gt (up t (List.mem_of_getElem? e))) e3⟩
theorem ZipSt.turn {S z TI TO i1 i2 l1 l2 : Addr} {xs ys : List Value} {i : Nat} {ts : List Addr} {Q : Option Value -> Shared -> Prop} (D : ZipApart z TI TO i1 i2 l1 l2) (q : ZipSt s.heap S z TI TO i1 i2 l1 l2 xs ys i ts)
  (hS : S < s.heap.objs.size) (ht : ∀ t ∈ ts, t ≠ z /\ t ≠ TO /\ t ≠ i1 /\ t ≠ i2) (hi : i < xs.length) (hl : xs.length = ys.length)
  (hQ : ∀ h' t, ZipSt h' S z TI TO i1 i2 l1 l2 xs ys (i + 1) (ts ++ [t]) -> s.heap.objs.size <= t -> (∀ c o, c ≠ z -> c ≠ TO -> c ≠ i1 -> c ≠ i2 -> s.heap.get? c = some o -> h'.get? c = some o) -> Q (some (.ref t)) { s with heap := h' }) :
  wpAny (model prog w) A (pyNext (.ref z)) Q E s := by
 obtain ⟨zs, tI, ⟨a, b, tO⟩, a1, a2, b1, b2, len, nd, up, prs⟩ := q
 have ex : xs.toArray[i]? = some xs[i] := by simp [hi]
 have ey : ys.toArray[i]? = some (ys[i]'(by omega)) := by simp [show i < ys.length by omega]
 have ex' : xs[i]? = some xs[i] := List.getElem?_eq_getElem hi
 have ey' : ys[i]? = some (ys[i]'(by omega)) := List.getElem?_eq_getElem (by omega)
 have fin : ∀ h' : Heap, ((∃ T f, T ∈ ts ++ [s.heap.objs.size] /\ zx0 h' z TI TO T f)) -> (∃ a b, IsPair h' TO a b) -> h'.IsListIter i1 l1 (i + 1) -> h'.IsListIter i2 l2 (i + 1) -> IsPair h' s.heap.objs.size xs[i] (ys[i]'(by omega)) ->
   (∀ c o, c ≠ z -> c ≠ TO -> c ≠ i1 -> c ≠ i2 -> s.heap.get? c = some o -> h'.get? c = some o) -> ZipSt h' S z TI TO i1 i2 l1 l2 xs ys (i + 1) (ts ++ [s.heap.objs.size]) := by
  intro h' hz hTO c1 c2 hp kk
  refine ⟨.inr hz, kk _ _ D.TIz D.TITO D.TIi1 D.TIi2 tI, hTO, c1, c2, b1.at fun o e => kk _ o D.l1z D.l1TO D.l1i1 D.l1i2 e, b2.at fun o e => kk _ o D.l2z D.l2TO D.l2i1 D.l2i2 e, by rw [List.length_append, len]; rfl, ?_, fun t ht' => ?_, fun j t e => ?_⟩
  ·refine List.nodup_append.mpr ⟨nd, by simp, fun t ht' u hu => ?_⟩
   obtain ⟨j, hj⟩ := List.mem_iff_getElem?.mp ht'
   obtain ⟨_, _, _, _, e⟩ := prs j t hj
   rw [List.mem_singleton.mp hu]
   exact Nat.ne_of_lt (Heap.lt_size e)
  ·rcases List.mem_append.mp ht' with h | h
   ·exact up t h
   ·rw [List.mem_singleton.mp h]; exact hS
  ·by_cases hj : j < ts.length
   ·rw [List.getElem?_append_left hj] at e
    obtain ⟨x, y, e1, e2, e3⟩ := prs j t e
    obtain ⟨n1, n2, n3, n4⟩ := ht t (List.mem_of_getElem? e)
    exact ⟨x, y, e1, e2, kk _ _ n1 n2 n3 n4 e3⟩
   ·rw [List.getElem?_append_right (by omega)] at e
    have h0 : j - ts.length = 0 := by
     cases hz : j - ts.length with
     | zero => rfl
     | succ k => rw [hz] at e; simp at e
    rw [h0] at e
    simp only [List.getElem?_cons_zero, Option.some.injEq] at e
    subst e
    have : j = i := by omega
    subst this
    exact ⟨_, _, ex', ey', hp⟩
 rcases zs with ⟨rfl, hz⟩ | ⟨T, f, hT, hz⟩
 ·exact yk8 (p := false) (q := false) D hz tI tO a1 a2 b1 b2 ex ey fun h' g1 g2 g3 g4 g5 kk => hQ h' _ (fin h' ⟨_, false, List.mem_append_right _ (List.mem_singleton.mpr rfl), g1⟩ ⟨_, _, g2⟩ g3 g4 g5 kk) (Nat.le_refl _) kk
 ·obtain ⟨j, hj⟩ := List.mem_iff_getElem?.mp hT
  obtain ⟨_, _, _, _, eT⟩ := prs j T hj
  exact yz0 D hz eT tI a1 a2 b1 b2 ex ey fun h' g1 g3 g4 g5 kk => hQ h' _ (fin h' ⟨T, true, List.mem_append_left _ hT, g1⟩ ⟨_, _, kk _ _ D.TOz D.TOi1 D.TOi2 tO⟩ g3 g4 g5 fun c o c1 _ c3 c4 e => kk c o c1 c3 c4 e) (Nat.le_refl _) fun c o c1 _ c3 c4 e => kk c o c1 c3 c4 e
theorem ZipSt.stop {S z TI TO i1 i2 l1 l2 : Addr} {xs ys : List Value} {ts : List Addr} {Q : Option Value -> Shared -> Prop} (hh : A.handled = none) (D : ZipApart z TI TO i1 i2 l1 l2) (q : ZipSt s.heap S z TI TO i1 i2 l1 l2 xs ys xs.length ts)
  (hQ : ∀ h', (∀ c o, c ≠ z -> c ≠ TO -> c ≠ i1 -> c ≠ i2 -> s.heap.get? c = some o -> h'.get? c = some o) -> Q none { s with heap := h' }) : wpAny (model prog w) A (pyNext (.ref z)) Q E s := by
 obtain ⟨zs, tI, ⟨a, b, tO⟩, a1, a2, b1, b2, len, nd, up, prs⟩ := q
 have ex : xs.toArray[xs.length]? = none := by simp
 rcases zs with ⟨rfl, hz⟩ | ⟨T, f, hT, hz⟩
 ·exact ys7 (p := false) (q := false) hh D hz tI tO a1 a2 b1 b2 (.inl ex) hQ
 ·obtain ⟨j, hj⟩ := List.mem_iff_getElem?.mp hT
  obtain ⟨_, _, _, _, eT⟩ := prs j T hj
  exact xq6 hh D hz eT tI a1 b1 ex fun h' kk => hQ h' fun c o c1 _ c3 _ e => kk c o c1 c3 e
end
end L2
end
section
namespace L2
open PySem PySem.Spec PyProof.Rows
theorem xk1 : typeLookup (.type "zip") "__len__" = pure none := by (rw [typeLookup_type, builtinLookup_eq_fast]; kernel_rfl)
theorem yw9 : typeLookup (.type "zip") "__length_hint__" = pure none := by (rw [typeLookup_type, builtinLookup_eq_fast]; kernel_rfl)
section
variable {prog : Program} {w : World} {A : Around} {E : Value -> Shared -> Prop} {s : Shared} {R : Result -> Shared -> Prop}
theorem xn5 {z : Addr} {Q : Bool -> Shared -> Prop} (hT : s.TypeIs (.ref z) "zip") (h : Q true s) : wpAny (model prog w) A (Builtin.List.listLengthHint (.ref z)) Q E s := by
 unfold Builtin.List.listLengthHint
 refine wpAny_bind (wpAny_specialOf hT xk1 ?_)
 refine wpAny_ite_split (fun c => absurd c (by decide)) (fun _ => ?_)
 refine wpAny_ite_split (fun c => absurd c (by decide)) (fun _ => ?_)
 refine wpAny_bind (wpAny_specialOf hT yw9 ?_)
 exact wpAny_pure h
abbrev yv6 (h : Heap) (S : Addr) (ts : List Addr) (c : Nat) : Prop := h.get? S = some { cls := .type "list", dict := none, data := .seq (ts.map Value.ref).toArray c, slots := #[] }
structure yn3 (h₀ h : Heap) (S z TO i1 i2 : Addr) (xs ys : List Value) (ts : List Addr) : Prop where
 keep : ∀ b o, b ≠ S -> b ≠ z -> b ≠ TO -> b ≠ i1 -> b ≠ i2 -> h₀.get? b = some o -> h.get? b = some o
 lst : ∃ c, yv6 h S ts c
 len : ts.length = xs.length
 nd : ts.Nodup
 up : ∀ t ∈ ts, S < t
 prs : ∀ (j : Nat) t, ts[j]? = some t -> ∃ x y, xs[j]? = some x /\ ys[j]? = some y /\ IsPair h t x y
theorem xk7 {S z TI TO i1 i2 l1 l2 : Addr} {xs ys : List Value} (hh : A.handled = none) (D : ZipApart z TI TO i1 i2 l1 l2) (lo : z < S /\ TI < S /\ TO < S /\ i1 < S /\ i2 < S /\ l1 < S /\ l2 < S) (hl : xs.length = ys.length) (hn : xs.length <= sizeLine) (res : Value) {h₀ : Heap}
  (hR : ∀ h' tk ts, yn3 h₀ h' S z TO i1 i2 xs ys ts -> R (.ok (.ret res)) { s with heap := h', toks := tk }) :
  ∀ (m i : Nat) (h : Heap) (tk c : Nat) (ts : List Addr), xs.length - i = m -> i <= xs.length -> ZipSt h S z TI TO i1 i2 l1 l2 xs ys i ts -> (∀ b o, b ≠ S -> b ≠ z -> b ≠ TO -> b ≠ i1 -> b ≠ i2 -> h₀.get? b = some o -> h.get? b = some o) -> yv6 h S ts c ->
   codeAny (model prog w) A (.builtin "list.extend.loop" ⟨[.ref S, .ref z, res], []⟩) R { s with heap := h, toks := tk } := by
 obtain ⟨o1, o2, o3, o4, o5, o6, o7⟩ := lo
 intro m
 induction m with
 | zero =>
  intro i h tk c ts hm hi q kk hS
  have e : i = xs.length := by (clear hn hl; omega)
  subst e
  refine codeAny_builtin F.entry_extend_loop ?_; rw [Around.under_plainId F.plain_extend_loop _]
  show wpAny _ A.in1 (pyNext (.ref z) >>= _) _ _ _
  refine wpAny_bind (ZipSt.stop (s := { s with heap := h, toks := tk }) (A := A.in1) hh D q fun h' k' => wpAny_pure (hR h' tk ts ⟨fun b o n0 n1 n2 n3 n4 e => k' b o n1 n2 n3 n4 (kk b o n0 n1 n2 n3 n4 e), ⟨c, k' S _ (Nat.ne_of_gt o1) (Nat.ne_of_gt o3) (Nat.ne_of_gt o4) (Nat.ne_of_gt o5) hS⟩, q.len, q.nd, q.up, fun j t ej => ?_⟩))
  obtain ⟨x, y, e1, e2, e3⟩ := q.prs j t ej
  have ht := q.up t (List.mem_of_getElem? ej)
  exact ⟨x, y, e1, e2, k' t _ (Nat.ne_of_gt (Nat.lt_trans o1 ht)) (Nat.ne_of_gt (Nat.lt_trans o3 ht)) (Nat.ne_of_gt (Nat.lt_trans o4 ht)) (Nat.ne_of_gt (Nat.lt_trans o5 ht)) e3⟩
 | succ m ih =>
  intro i h tk c ts hm hi q kk hS
  have hlt : i < xs.length := by (clear hi hn hl; omega)
  refine codeAny_builtin F.entry_extend_loop ?_; rw [Around.under_plainId F.plain_extend_loop _]
  show wpAny _ A.in1 (pyNext (.ref z) >>= _) _ _ _
  refine wpAny_bind (ZipSt.turn (s := { s with heap := h, toks := tk }) D q (Heap.lt_size hS) (fun t ht => ⟨Nat.ne_of_gt (Nat.lt_trans o1 (q.up t ht)), Nat.ne_of_gt (Nat.lt_trans o3 (q.up t ht)), Nat.ne_of_gt (Nat.lt_trans o4 (q.up t ht)), Nat.ne_of_gt (Nat.lt_trans o5 (q.up t ht))⟩) hlt hl fun h' t q' hle k' => ?_)
  have hS' : yv6 h' S ts c := k' S _ (Nat.ne_of_gt o1) (Nat.ne_of_gt o3) (Nat.ne_of_gt o4) (Nat.ne_of_gt o5) hS
  have sz : (ts.map Value.ref).toArray.size = i := by rw [List.size_toArray, lqm, q.len]
  obtain ⟨c', hc'⟩ : ∃ c', yv6 (h'.update S (Obj.mapSeq (·.push (Value.ref t)))) S (ts ++ [t]) c' := by
   have ea : ((ts ++ [t]).map Value.ref).toArray = (ts.map Value.ref).toArray.push (.ref t) := by simp
   unfold yv6
   rw [ea]
   exact ⟨_, Heap.get?_update_self (Obj.mapSeq (·.push (Value.ref t))) hS' rfl⟩
  show wpAny _ A.in1 (updateSeq S (·.push (Value.ref t)) >>= _) _ _ _
  refine wpAny_bind (wpAny_updateSeq hS' rfl (wpAny_pure ⟨plainId_quiet F.plain_extend_loop _, ih (i + 1) _ tk c' (ts ++ [t]) (by (clear sz hle hlt hi hn hl; omega)) hlt (q'.move ⟨Nat.ne_of_lt o1, Nat.ne_of_lt o2, Nat.ne_of_lt o3, Nat.ne_of_lt o4, Nat.ne_of_lt o5, Nat.ne_of_lt o6, Nat.ne_of_lt o7⟩ fun b o hb e => (Heap.get?_update_other _ _ (Ne.symm hb)).trans e) ?_ ?_⟩) ?_ ?_)
  ·exact fun b o n0 n1 n2 n3 n4 e => (Heap.get?_update_other _ _ (Ne.symm n0)).trans (k' b o n1 n2 n3 n4 (kk b o n0 n1 n2 n3 n4 e))
  ·exact hc'
  ·rw [sz]; (clear sz hle hlt hi hl; omega)
  ·show ((ts.map Value.ref).toArray.push (Value.ref t)).size <= sizeLine + 1
   rw [Array.size_push, sz]; (clear sz hle hlt hi hl; omega)
theorem yw6 {S z TI TO i1 i2 l1 l2 : Addr} {xs ys : List Value} {a b : Value} (hh : A.handled = none) (D : ZipApart z TI TO i1 i2 l1 l2) (lo : z < S /\ TI < S /\ TO < S /\ i1 < S /\ i2 < S /\ l1 < S /\ l2 < S) (hl : xs.length = ys.length) (hn : xs.length <= sizeLine) (res : Value)
  (hz : IsZip s.heap z TI TO .none) (hTI : IsPair s.heap TI (.ref i1) (.ref i2)) (hTO : IsPair s.heap TO a b) (h1 : s.heap.IsListIter i1 l1 0) (h2 : s.heap.IsListIter i2 l2 0) (hl1 : s.heap.IsList l1 xs.toArray) (hl2 : s.heap.IsList l2 ys.toArray) {c₀ : Nat} (hS : yv6 s.heap S [] c₀)
  (hR : ∀ h' tk ts, yn3 s.heap h' S z TO i1 i2 xs ys ts -> R (.ok (.ret res)) { s with heap := h', toks := tk }) :
  wpAny (model prog w) A.in1 (Builtin.List.listExtendWith (.ref S) (.ref z) res)
   (fun fin s' => match fin with | .done f => R (.ok f) s' | .again c' => c'.quiet = true /\ codeAny (model prog w) A c' R s') (fun e s' => R (.error e) s') s := by
 obtain ⟨o1, o2, o3, o4, o5, o6, o7⟩ := id lo
 unfold Builtin.List.listExtendWith
 refine wpAny_bind (wpAny_typeOf (T := "zip") ⟨_, hz, rfl⟩ ?_)
 have e1 : Builtin.List.listSameRef (.ref S) (.ref z) = false := by simp [Builtin.List.listSameRef, Nat.ne_of_gt o1]
 have e2 : (Value.type "zip" == Value.type "list") = false := by decide
 have e3 : (Value.type "zip" == Value.type "tuple") = false := by decide
 simp only [e1, e2, e3, Bool.or_false, Bool.false_eq_true, if_false]
 refine wpAny_bind (wpAny_pyIter_zip hz (wpAny_bind (wpAny_holding (xn5 ⟨_, hz, rfl⟩ ?_))))
 refine wpAny_ite_split (fun _ => ?_) (fun c => absurd rfl c)
 refine wpAny_bind (wpAny_rule (wpAny_bind ?_))
 show wpAny _ _ (updateSeq S (·.push .none) >>= fun _ => updateSeq S (·.pop)) _ _ s
 refine wpAny_bind (wpAny_updateSeq hS rfl ?_); have g2 := Heap.get?_update_self (Obj.mapSeq (·.push Value.none)) hS rfl
 refine wpAny_updateSeq (hz := by seq_fits) g2 rfl ?_; have g3 := Heap.get?_update_self (Obj.mapSeq (·.pop)) g2 rfl
 have kp : ∀ b o, b ≠ S -> s.heap.get? b = some o -> ((s.heap.update S (Obj.mapSeq (·.push Value.none))).update S (Obj.mapSeq (·.pop))).get? b = some o := fun b o n e => (Heap.get?_update_other _ _ (Ne.symm n)).trans ((Heap.get?_update_other _ _ (Ne.symm n)).trans e)
 refine wpAny_pure ⟨plainId_quiet F.plain_extend_loop _, xk7 (s := s) hh D lo hl hn res hR xs.length 0 _ _ _ [] (Nat.sub_zero _) (Nat.zero_le _) ⟨.inl ⟨rfl, kp _ _ (Nat.ne_of_lt o1) hz⟩, kp _ _ (Nat.ne_of_lt o2) hTI, ⟨a, b, kp _ _ (Nat.ne_of_lt o3) hTO⟩, h1.at fun o e => kp _ o (Nat.ne_of_lt o4) e, h2.at fun o e => kp _ o (Nat.ne_of_lt o5) e, hl1.at fun o e => kp _ o (Nat.ne_of_lt o6) e, hl2.at fun o e => kp _ o (Nat.ne_of_lt o7) e, rfl, List.nodup_nil, (fun t h => nomatch h), (fun j t e => by simp at e)⟩ (fun b o n0 _ _ _ _ e => kp b o n0 e) g3⟩
theorem xq3 {z TI TO i1 i2 l1 l2 : Addr} {xs ys : List Value} {a b : Value} {Q : Value -> Shared -> Prop} (hh : A.handled = none) (D : ZipApart z TI TO i1 i2 l1 l2) (hl : xs.length = ys.length) (hn : xs.length <= sizeLine)
  (hz : IsZip s.heap z TI TO .none) (hTI : IsPair s.heap TI (.ref i1) (.ref i2)) (hTO : IsPair s.heap TO a b) (h1 : s.heap.IsListIter i1 l1 0) (h2 : s.heap.IsListIter i2 l2 0) (hl1 : s.heap.IsList l1 xs.toArray) (hl2 : s.heap.IsList l2 ys.toArray)
  (hQ : ∀ h' tk ts, yn3 s.heap h' s.heap.objs.size z TO i1 i2 xs ys ts -> Q (.ref s.heap.objs.size) { s with heap := h', toks := tk }) : wpAny (model prog w) A (call (.type "list") [.ref z]) Q E s := by
 refine callType_codes (Q₁ := fun ob s₁ => ob = .ref s.heap.objs.size /\ s₁ = { s with heap := s.heap.push { cls := .type "list", data := .seq #[] } }) F.called_list (F.typeCall_list_1 _) F.entry_list_init (code_list_new _ ⟨rfl, rfl⟩) fun ob s₁ q => ?_
 obtain ⟨rfl, rfl⟩ := q
 have lz : z < s.heap.objs.size := Heap.lt_size hz
 have lI : TI < s.heap.objs.size := Heap.lt_size hTI
 have lO : TO < s.heap.objs.size := Heap.lt_size hTO
 have li1 : i1 < s.heap.objs.size := by obtain ⟨_, e, _⟩ := h1; exact Heap.lt_size e
 have li2 : i2 < s.heap.objs.size := by obtain ⟨_, e, _⟩ := h2; exact Heap.lt_size e
 have ll1 : l1 < s.heap.objs.size := by obtain ⟨_, e, _⟩ := hl1; exact Heap.lt_size e
 have ll2 : l2 < s.heap.objs.size := by obtain ⟨_, e, _⟩ := hl2; exact Heap.lt_size e
 have hS : (s.heap.push { cls := .type "list", data := .seq #[] }).get? s.heap.objs.size = some { cls := .type "list", data := .seq #[] } := Heap.get?_push_size _ rfl
 refine ⟨⟨_, hS, rfl⟩, F.args_list_init_2 _ _, ?_⟩
 show wpAny _ A.in1.in1 (do let old ← Builtin.List.listItems (.ref s.heap.objs.size); Builtin.List.listUpdate (.ref s.heap.objs.size) (fun _ => #[]); letGo old.toList.reverse; Builtin.List.listExtendWith (.ref s.heap.objs.size) (.ref z) .none) _ _ _
 refine wpAny_bind ?_
 unfold Builtin.List.listItems
 refine wpAny_bind (wpAny_seqItems hS rfl (wpAny_pure ?_))
 show wpAny _ _ (updateSeq s.heap.objs.size (fun _ => #[]) >>= fun _ => letGo (#[] : Array Value).toList.reverse >>= fun _ => Builtin.List.listExtendWith (.ref s.heap.objs.size) (.ref z) .none) _ _ _
 refine wpAny_bind (wpAny_updateSeq hS rfl ?_); have g2 := Heap.get?_update_self (Obj.mapSeq (fun _ => (#[] : Array Value))) hS rfl
 have kp : ∀ b o, s.heap.get? b = some o -> ((s.heap.push { cls := .type "list", data := .seq #[] }).update s.heap.objs.size (Obj.mapSeq (fun _ => (#[] : Array Value)))).get? b = some o :=
  fun b o e => (Heap.get?_update_other _ _ (Nat.ne_of_gt (Heap.lt_size e))).trans (Heap.get?_push_of_some _ e)
 refine wpAny_bind (wpAny_letGo ?_)
 refine yw6 (A := A.in1) hh D ⟨lz, lI, lO, li1, li2, ll1, ll2⟩ hl hn .none (kp _ _ hz) (kp _ _ hTI) (kp _ _ hTO) (h1.at fun o e => kp _ o e) (h2.at fun o e => kp _ o e) (hl1.at fun o e => kp _ o e) (hl2.at fun o e => kp _ o e) g2 fun h' tk ts q => ⟨rfl, hQ h' tk ts ?_⟩
 exact ⟨fun b o n0 n1 n2 n3 n4 e => q.keep b o n0 n1 n2 n3 n4 (kp b o e), q.lst, q.len, q.nd, q.up, q.prs⟩
end
end L2
end
section
namespace L2
open PySem PySem.Spec PyProof.Rows
def zw4 (H : Hp) (S : Addr) (ts : List Addr) (xs ys : List V) : Hp := fun b => if b = S then some (.lst (ts.map V.ref)) else if b ∈ ts then some (.tup [xs.getD (ts.idxOf b) .non, ys.getD (ts.idxOf b) .non]) else H b
theorem idx_at {ts : List Addr} (nd : ts.Nodup) {j : Nat} {t : Addr} (e : ts[j]? = some t) : ts.idxOf t = j := by
 obtain ⟨hj, e1⟩ := List.getElem?_eq_some_iff.mp e
 have hm : t ∈ ts := List.mem_of_getElem? e
 have hlt : ts.idxOf t < ts.length := List.idxOf_lt_length_iff.mpr hm
 have h2 : ts[ts.idxOf t] = t := List.getElem_idxOf hlt
 exact (List.getElem_inj nd).mp (h2.trans e1.symm)
theorem yj2 : ∀ ts : List Addr, Vals (ts.map V.ref) (ts.map Value.ref)
 | [] => .nil
 | t :: r => .cons rfl (yj2 r)
def xn8 (K : PySem.W.Frag) (ta : TA) : TE := fun σ H Q => ta σ H fun vs H1 => ∃ (l1 l2 : Addr) (xs ys : List V), vs = [.ref l1, .ref l2] /\ SqL K H1 l1 xs /\ SqL K H1 l2 ys /\ xs.length = ys.length /\
 ∀ (l : Addr) (ts : List Addr) (H' : Hp), (∀ b o, H1 b = some o -> H' b = some o) -> H1 l = none -> H' l = some (.lst (ts.map V.ref)) -> ts.length = xs.length ->
  (∀ (j : Nat) t, ts[j]? = some t -> ∃ x y, xs[j]? = some x /\ ys[j]? = some y /\ H' t = some (.tup [x, y])) -> Q (.ref l) H'
theorem boot_list : bootBuiltins "list" = some (.type "list") := by first | exact PySem.boot_list | decide +kernel
theorem yv7 {X : Cx} {a b : Expr} {ta : TA} {p pp pos pos2 : Pos} (hc : X.calm = true) (hgl : Gl X "list") (hml : X.mg "list" = none) (hgz : Gl X "zip") (hmz : X.mg "zip" = none) (ha : PA X [a, b] ta)
  (hs : starEach [a, b] X.env = [(false, eval a X.env), (false, eval b X.env)] := by rfl) (hs2 : starEach [b] X.env = [(false, eval b X.env)] := by rfl)
  (he : starEach [.Call (.Name "zip" pp) [a, b] [] pos2] X.env = [(false, eval (.Call (.Name "zip" pp) [a, b] [] pos2) X.env)] := by rfl) :
  PE X (.Call (.Name "list" p) [.Call (.Name "zip" pp) [a, b] [] pos2] [] pos) (xn8 X.K ta) := by
 intro pins s σ H Q I h
 refine wpAny_Call_Name_kw (zr2 I hgl hml boot_list ?_)
 refine PyProof.Rows.callWith_type1 ?_ (by rw [he]; rfl) rfl
 rw [he]
 show wpAny _ _ (spliced ((false, eval (.Call (.Name "zip" pp) [a, b] [] pos2) X.env) :: [])) _ _ s
 refine Calls.spliced_cons (thn (Q := fun u s₂ => wpAny (model X.prog X.w) X.A (call (.type "list") [u]) (EP X pins σ Q) X.xe s₂) ?_ fun u s₂ q => Calls.spliced_nil q)
 refine Call_ (zr2 I hgz hmz boot_zip (PyProof.Rows.callWith_type1 (thn (ha pos2 pins s σ H _ I h) fun us s1 ⟨vs, H1, I1, r1, q1⟩ => ?_) (by rw [hs, hs2]) (by rw [hs2]; rfl)))
 obtain ⟨l1, l2, xs, ys, e, hq1, hq2, hl, q⟩ := q1
 subst e
 cases r1 with
 | cons r rr =>
  cases rr with
  | cons r' rr =>
   cases rr
   cases r
   cases r'
   obtain ⟨its1, rv1, p1', zz1⟩ := I1.list hq1
   obtain ⟨its2, rv2, p2', zz2⟩ := I1.list hq2
   have p1 := p1'.isList
   have p2 := p2'.isList
   have lt1 : l1 < s1.heap.objs.size := by obtain ⟨o, e, _⟩ := p1; exact Heap.lt_size e
   have lt2 : l2 < s1.heap.objs.size := by obtain ⟨o, e, _⟩ := p2; exact Heap.lt_size e
   have D : ZipApart (s1.heap.objs.size + 4) (s1.heap.objs.size + 2) (s1.heap.objs.size + 3) s1.heap.objs.size (s1.heap.objs.size + 1) l1 l2 := zipApart_new lt1 lt2
   refine call_zip_2 p1 p2 fun h' hz hTI hTO h1 h2 hsz kk => ?_
   refine xq3 (s := { s1 with heap := h' }) (I1.ok.hd hc) D (xs := its1) (ys := its2) (by rw [← rv1.length, ← rv2.length]; exact hl) (by rw [← rv1.length]; exact zz1) hz hTI hTO h1 h2 (p1.at fun o e => kk _ o e) (p2.at fun o e => kk _ o e) fun h'' tk ts zd => ?_
   have hS : s1.heap.objs.size < h'.objs.size := by rw [hsz]; (clear hsz zz2 zz1 hl; omega)
   have k2 : ∀ b o, s1.heap.get? b = some o -> h''.get? b = some o := fun b o e => by
    have hb : b < s1.heap.objs.size := Heap.lt_size e
    exact zd.keep b o (Nat.ne_of_lt (Nat.lt_trans hb hS)) (Nat.ne_of_lt (Nat.lt_of_lt_of_le hb (Nat.le_add_right _ _))) (Nat.ne_of_lt (Nat.lt_of_lt_of_le hb (Nat.le_add_right _ _))) (Nat.ne_of_lt hb) (Nat.ne_of_lt (Nat.lt_of_lt_of_le hb (Nat.le_add_right _ _))) (kk b o e)
   have agree : ∀ b, b < s1.heap.objs.size -> zw4 H1 h'.objs.size ts xs ys b = H1 b := fun b hb => by
    unfold zw4
    rw [if_neg (Nat.ne_of_lt (Nat.lt_trans hb hS)), if_neg (fun hm => Nat.lt_irrefl b (Nat.lt_trans (Nat.lt_trans hb hS) (zd.up b hm)))]
   have lt : ∀ b u, H1 b = some u -> b < s1.heap.objs.size := fun b u e => by
    rcases Nat.lt_or_ge b s1.heap.objs.size with h | h
    ·exact h
    ·rw [I1.hok.fresh h] at e; cases e
   have keepH : ∀ b o, H1 b = some o -> zw4 H1 h'.objs.size ts xs ys b = some o := fun b o e => by rw [agree b (lt b o e)]; exact e
   have prs : ∀ (j : Nat) t, ts[j]? = some t -> ∃ x y u v, xs[j]? = some x /\ ys[j]? = some y /\ RelV x u /\ RelV y v /\ IsPair h'' t u v /\ zw4 H1 h'.objs.size ts xs ys t = some (.tup [x, y]) := fun j t e => by
    obtain ⟨u, v, e1, e2, e3⟩ := zd.prs j t e
    have hj1 : j < xs.length := by rw [rv1.length]; exact (List.getElem?_eq_some_iff.mp e1).1
    have hj2 : j < ys.length := by rw [rv2.length]; exact (List.getElem?_eq_some_iff.mp e2).1
    have g1 : xs[j]? = some xs[j] := List.getElem?_eq_getElem hj1
    have g2 : ys[j]? = some ys[j] := List.getElem?_eq_getElem hj2
    obtain ⟨u', eu, ru⟩ := rv1.get g1
    obtain ⟨v', ev, rv⟩ := rv2.get g2
    rw [e1] at eu
    rw [e2] at ev
    cases eu
    cases ev
    have hm : t ∈ ts := List.mem_of_getElem? e
    refine ⟨_, _, u, v, g1, g2, ru, rv, e3, ?_⟩
    unfold zw4
    rw [if_neg (Nat.ne_of_gt (zd.up t hm)), if_pos hm, idx_at zd.nd e, List.getD_eq_getElem?_getD, List.getD_eq_getElem?_getD, g1, g2]
    rfl
   have hok : HOk X.prog X.w (zw4 H1 h'.objs.size ts xs ys) h'' := by
    intro b o e
    by_cases hb : b = h'.objs.size
    ·subst hb
     have : zw4 H1 h'.objs.size ts xs ys h'.objs.size = some (.lst (ts.map V.ref)) := by unfold zw4; rw [if_pos rfl]
     rw [this] at e
     cases e
     obtain ⟨c, ec⟩ := zd.lst
     exact ⟨by rw [lqm, zd.len, ← rv1.length]; exact zz1, ts.map Value.ref, c, yj2 ts, ec⟩
    ·by_cases hm : b ∈ ts
     ·obtain ⟨j, hj⟩ := List.mem_iff_getElem?.mp hm
      obtain ⟨x, y, u, v, _, _, ru, rv, ep, ez⟩ := prs j b hj
      rw [ez] at e
      cases e
      exact ⟨⟨by show 2 <= sizeLine; exact Nat.le_of_lt (zc2 (by (clear hb hS hsz zz2 zz1 hl; omega))), _, ep, rfl⟩, [u, v], .cons ru (.cons rv .nil), _, ep, rfl, _, rfl⟩
     ·have : zw4 H1 h'.objs.size ts xs ys b = H1 b := by unfold zw4; rw [if_neg hb, if_neg hm]
      rw [this] at e
      exact (I1.hok b o e).stay (fun c v _ r => k2 c v r) (fun c r => keepH c _ r) fun c zs r => keepH c _ r
   refine ⟨.ref h'.objs.size, _, I1.laidMany (t' := tk) k2 agree hok, rfl, ?_⟩
   refine q h'.objs.size ts _ keepH (I1.hok.fresh (Nat.le_of_lt hS)) (by unfold zw4; rw [if_pos rfl]) (by rw [zd.len, rv1.length]) fun j t e => ?_
   obtain ⟨x, y, u, v, e1, e2, _, _, _, ez⟩ := prs j t e
   exact ⟨x, y, e1, e2, ez⟩
end L2
end
section
namespace L2
open PySem PySem.Spec PyProof.Rows
inductive A2 {α β : Type} (R : α -> β -> Prop) : List α -> List β -> Prop
 | nil : A2 R [] []
 | cons {a : α} {b : β} {as : List α} {bs : List β} (h : R a b) (t : A2 R as bs) : A2 R (a :: as) (b :: bs)
theorem A2.imp {α β : Type} {R S : α -> β -> Prop} (f : ∀ a b, R a b -> S a b) {as : List α} {bs : List β} (h : A2 R as bs) : A2 S as bs := by
 induction h with
 | nil => exact .nil
 | cons h _ ih => exact .cons (f _ _ h) ih
theorem A2.app {α β : Type} {R : α -> β -> Prop} {as as' : List α} {bs bs' : List β} (h : A2 R as bs) (g : A2 R as' bs') : A2 R (as ++ as') (bs ++ bs') := by
 induction h with
 | nil => exact g
 | cons h _ ih => exact .cons h ih
theorem A2.snoc {α β : Type} {R : α -> β -> Prop} {as : List α} {bs : List β} {a : α} {b : β} (h : A2 R as bs) (g : R a b) : A2 R (as ++ [a]) (bs ++ [b]) := h.app (.cons g .nil)
theorem A2.len {α β : Type} {R : α -> β -> Prop} {as : List α} {bs : List β} (h : A2 R as bs) : as.length = bs.length := by
 induction h with
 | nil => rfl
 | cons _ _ ih => exact congrArg (· + 1) ih
theorem A2.get {α β : Type} {R : α -> β -> Prop} {as : List α} {bs : List β} (h : A2 R as bs) : ∀ {i : Nat} {a : α}, as[i]? = some a -> ∃ b, bs[i]? = some b /\ R a b := by
 induction h with
 | nil => intro i a e; simp at e
 | cons h _ ih =>
  intro i a e
  cases i with
  | zero => cases e; exact ⟨_, rfl, h⟩
  | succ i => exact ih e
theorem zx5 {xs : List V} {us : List Value} (r : Vals xs us) : ∀ {j : Nat} {u : Value}, us[j]? = some u -> ∃ x, xs[j]? = some x /\ RelV x u := by
 induction r with
 | nil => intro j u e; simp at e
 | cons h _ ih =>
  intro j u e
  cases j with
  | zero => cases e; exact ⟨_, rfl, h⟩
  | succ j => exact ih e
section
variable {X : Cx} {pins : List (Addr × Obj)} {σ : List (Option V)} {H : Hp} {s : Shared} {A : Around}
theorem xd7 {ss tt : List Str} : ((List.range (min ss.length tt.length)).all (fun j => decide (ss[j]? = tt[j]?)) && ss.length == tt.length) = decide (ss = tt) := by
 by_cases h : ss = tt
 ·subst h; simp
 ·rw [decide_eq_false h]
  by_cases hl : ss.length = tt.length
  ·have : ((List.range (min ss.length tt.length)).all (fun j => decide (ss[j]? = tt[j]?))) = false := by
    rw [← Bool.not_eq_true, List.all_eq_true]
    intro hh
    refine h (List.ext_getElem? fun i => ?_)
    by_cases hi : i < ss.length
    ·have := hh i (List.mem_range.mpr (by omega))
     exact of_decide_eq_true this
    ·rw [List.getElem?_eq_none (by omega), List.getElem?_eq_none (by omega)]
   rw [this]; rfl
  ·have : (ss.length == tt.length) = false := by simpa using hl
   rw [this, Bool.and_false]
theorem yc1 (I : Inv X pins σ H s) {ss tt : List Str} {its its2 : List Value} (r : Vals (ss.map V.str) its) (r2 : Vals (tt.map V.str) its2) (j : Nat) (h1 : j < its.toArray.size) (h2 : j < its2.toArray.size) : SeqAt.EqAt A s its.toArray[j] its2.toArray[j] (decide (ss[j]? = tt[j]?)) := by
 have g1 : its[j]? = some its.toArray[j] := by simp
 have g2 : its2[j]? = some its2.toArray[j] := by simp
 obtain ⟨x, e1, q1⟩ := zx5 r g1
 obtain ⟨y, e2, q2⟩ := zx5 r2 g2
 rw [List.getElem?_map, Option.map_eq_some_iff] at e1 e2
 obtain ⟨a, e1, rfl⟩ := e1
 obtain ⟨b, e2, rfl⟩ := e2
 obtain ⟨t, q1⟩ := q1
 obtain ⟨t2, q2⟩ := q2
 rw [q1, q2, e1, e2]
 have := SeqAt.EqAt.str_str (A := A) (s := s) a t b t2
 have e : (a == b) = decide (some a = some b) := by
  by_cases h : a = b
  ·subst h; simp
  ·simp [h]
 rwa [e] at this
theorem rcS (I : Inv X pins σ H s) (hu : A.units < cLine) {a b : Addr} {ss tt : List Str} (ha : SqT X.K H a (ss.map V.str)) (hb : SqT X.K H b (tt.map V.str)) : SeqAt.RcAt A s (.ref a) (.ref b) (decide (ss = tt)) := by
 obtain ⟨its, r, p, _⟩ := I.tuple ha
 obtain ⟨its2, r2, p2, _⟩ := I.tuple hb
 have h := SeqAt.RcAt.tuples (A := A) (e := fun j => decide (ss[j]? = tt[j]?)) p p2 hu (fun j h1 h2 => yc1 I r r2 j h1 h2)
 have l1 := r.length
 have l2 := r2.length
 rw [lqm] at l1 l2
 rw [List.size_toArray, List.size_toArray, ← l1, ← l2, xd7] at h
 exact h
theorem rcNeS (I : Inv X pins σ H s) (hu : A.units < cLine) {a b : Addr} {ss tt : List Str} (ha : SqT X.K H a (ss.map V.str)) (hb : SqT X.K H b (tt.map V.str)) : SeqAt.RcNeAt A s (.ref a) (.ref b) (!decide (ss = tt)) := by
 obtain ⟨its, r, p, _⟩ := I.tuple ha
 obtain ⟨its2, r2, p2, _⟩ := I.tuple hb
 have h := SeqAt.RcNeAt.tuples (A := A) (e := fun j => decide (ss[j]? = tt[j]?)) p p2 hu (fun j h1 h2 => yc1 I r r2 j h1 h2)
 have l1 := r.length
 have l2 := r2.length
 rw [lqm] at l1 l2
 rw [List.size_toArray, List.size_toArray, ← l1, ← l2, xd7] at h
 exact h
end
section
variable {X : Cx}
def rEqS (K : PySem.W.Frag) : R2 := fun x y H Q => ∃ (a b : Addr) (ss tt : List Str), x = .ref a /\ y = .ref b /\ SqT K H a (ss.map V.str) /\ SqT K H b (tt.map V.str) /\ Q (.bl (decide (ss = tt))) H
theorem op_eqS (hu : X.A.units < cLine) : OpR X (compareOp .Eq) (rEqS X.K) := by
 intro pins s σ H x y v u Q I rx ry h
 obtain ⟨a, b, ss, tt, rfl, rfl, ha, hb, q⟩ := h
 cases rx
 cases ry
 exact rcS I hu ha hb _ _ _ _ ⟨.bl _, H, I, rfl, q⟩
def rNeS (K : PySem.W.Frag) : R2 := fun x y H Q => ∃ (a b : Addr) (ss tt : List Str), x = .ref a /\ y = .ref b /\ SqT K H a (ss.map V.str) /\ SqT K H b (tt.map V.str) /\ Q (.bl (!decide (ss = tt))) H
theorem op_neS (hu : X.A.units < cLine) : OpR X (compareOp .NotEq) (rNeS X.K) := by
 intro pins s σ H x y v u Q I rx ry h
 obtain ⟨a, b, ss, tt, rfl, rfl, ha, hb, q⟩ := h
 cases rx
 cases ry
 exact rcNeS I hu ha hb _ _ _ _ ⟨.bl _, H, I, rfl, q⟩
def rInS (K : PySem.W.Frag) : R2 := fun x y H Q => ∃ (a p : Addr) (tt : List Str) (ps : List Addr) (ns : List (List Str)), x = .ref a /\ y = .ref p /\ SqT K H a (tt.map V.str) /\ SqL K H p (ps.map V.ref) /\ A2 (fun q n => SqT K H q (n.map V.str)) ps ns /\ Q (.bl (ns.any fun n => decide (n = tt))) H
theorem yt2 : ∀ {l l' : List Str}, l.map V.str = l'.map V.str -> l = l'
 | [], [], _ => rfl
 | [], _ :: _, h => by cases h
 | _ :: _, [], h => by cases h
 | x :: l, y :: l', h => by
  rw [List.map_cons, List.map_cons] at h
  injection h with h1 h2
  rw [V.str.inj h1, yt2 h2]
open Classical in
theorem op_inS (hu : X.A.units + 1 < cLine) : OpR X (compareOp .In) (rInS X.K) := by
 intro pins s σ H x y v u Q I rx ry h
 obtain ⟨a, p, tt, ps, ns, rfl, rfl, ha, hp, hn, q⟩ := h
 cases rx
 cases ry
 obtain ⟨its, r, pl, hz⟩ := I.list hp
 have kn : ∀ (q : Addr) (n : List Str), SqT X.K H q (n.map V.str) -> decide (SqT X.K H q (tt.map V.str)) = decide (n = tt) := fun q n h => by
  by_cases e : n = tt
  ·subst e; rw [decide_eq_true rfl, decide_eq_true h]
  ·rw [decide_eq_false e, decide_eq_false fun h2 => e (yt2 (I.tuple_inj h h2))]
 have key : ∀ v ∈ its, ∃ (q : Addr) (n : List Str), v = Value.ref q /\ SqT X.K H q (n.map V.str) := fun v hv => by
  obtain ⟨j, hj⟩ := List.mem_iff_getElem?.mp hv
  obtain ⟨x, e, rx⟩ := zx5 r hj
  rw [List.getElem?_map, Option.map_eq_some_iff] at e
  obtain ⟨q, e, rfl⟩ := e
  obtain ⟨n, _, h⟩ := hn.get e
  exact ⟨q, n, rx, h⟩
 refine SeqAt.in_listAt (fun v => match v with | .ref q => decide (SqT X.K H q (tt.map V.str)) | _ => false) pl.isList (fun v hv => ?_) ⟨.bl _, H, I, rfl, ?_⟩
 ·obtain ⟨q, n, rfl, hq⟩ := key v (by simpa using hv)
  show SeqAt.EqAt _ _ _ _ (decide (SqT X.K H q (tt.map V.str)))
  by_cases e : q = a
  ·subst e
   rw [decide_eq_true ha]
   exact SeqAt.EqAt.same _
  ·have := SeqAt.EqAt.of_refs e (rcS (A := X.A.in1) I hu hq ha)
   have e2 := kn q n hq
   rw [e2]
   exact this
 ·have e : its.toArray.any (fun v => match v with | .ref q => decide (SqT X.K H q (tt.map V.str)) | _ => false) = ns.any fun n => decide (n = tt) := by
   rw [show its.toArray.any (fun v => match v with | .ref q => decide (SqT X.K H q (tt.map V.str)) | _ => false) = its.any (fun v => match v with | .ref q => decide (SqT X.K H q (tt.map V.str)) | _ => false) by simp]
   clear q key hz pl hp
   generalize hvs : ps.map V.ref = vs at r
   induction r generalizing ps ns with
   | nil =>
    cases ps with
    | nil => cases hn; rfl
    | cons => cases hvs
   | cons h _ ih =>
    cases hn with
    | nil => cases hvs
    | cons hq ht =>
     rw [List.map_cons] at hvs
     injection hvs with h1 h2
     subst h1
     cases h
     rw [List.any_cons, List.any_cons, ih _ _ ht h2]
     congr 1
     exact kn _ _ hq
  rw [e]
  exact q
end
def Sm0 (x y : V) : Prop := (∃ s : Str, x = .str s /\ y = .str s) ∨ ∃ i : Int, x = .int i /\ y = .int i
def TQ (K : PySem.W.Frag) (H : Hp) (a : Addr) (xs : List V) : Prop := H a = some (.tup xs) ∨ ∀ H', SqT K H' a xs
theorem TQ.sq {K : PySem.W.Frag} {H : Hp} {a : Addr} {xs : List V} (h : TQ K H a xs) : SqT K H a xs := h.elim SqT.of fun g => g H
inductive SmT (K : PySem.W.Frag) (H : Hp) (R : V -> V -> Prop) (x y : V) : Prop
 | mk (a b : Addr) (xs ys : List V) (h1 : x = .ref a) (h2 : y = .ref b) (h3 : TQ K H a xs) (h4 : TQ K H b ys) (h5 : A2 R xs ys) (h6 : xs.length <= 1000000) : SmT K H R x y
def Sm (K : PySem.W.Frag) (H : Hp) : Nat -> V -> V -> Prop
 | 0 => Sm0
 | n + 1 => fun x y => Sm0 x y ∨ SmT K H (Sm K H n) x y
section
variable {X : Cx} {pins : List (Addr × Obj)} {σ : List (Option V)} {H : Hp} {s : Shared}
theorem yr0 {A : Around} {x y : V} {u v : Value} (h : Sm0 x y) (rx : RelV x u) (ry : RelV y v) : SeqAt.EqAt A s u v true := by
 rcases h with ⟨z, rfl, rfl⟩ | ⟨z, rfl, rfl⟩
 ·obtain ⟨t, rfl⟩ := rx
  obtain ⟨t2, rfl⟩ := ry
  have := SeqAt.EqAt.str_str (A := A) (s := s) z t z t2
  rwa [beq_self_eq_true] at this
 ·obtain ⟨t, rfl⟩ := rx
  obtain ⟨t2, rfl⟩ := ry
  have := SeqAt.EqAt.int_int (A := A) (s := s) z t z t2
  rwa [beq_self_eq_true] at this
theorem xb3 (I : Inv X pins σ H s) {A : Around} {R : V -> V -> Prop} {xs ys : List V} (hR : ∀ x y u v, R x y -> RelV x u -> RelV y v -> SeqAt.EqAt A s u v true) (h : A2 R xs ys) {its its2 : List Value} (r : Vals xs its) (r2 : Vals ys its2) (j : Nat) (h1 : j < its.toArray.size) (h2 : j < its2.toArray.size) : SeqAt.EqAt A s its.toArray[j] its2.toArray[j] ((fun _ => true) j) := by
 have g1 : its[j]? = some its.toArray[j] := by simp
 have g2 : its2[j]? = some its2.toArray[j] := by simp
 obtain ⟨x, e1, q1⟩ := zx5 r g1
 obtain ⟨y, e2, q2⟩ := zx5 r2 g2
 obtain ⟨y', e2', hr⟩ := h.get e1
 rw [e2] at e2'
 cases e2'
 exact hR x y _ _ hr q1 q2
theorem yp9 (n m : Nat) (h : n = m) : ((List.range (min n m)).all (fun _ => true) && n == m) = true := by
 subst h; simp
theorem xb2 (I : Inv X pins σ H s) : ∀ (n : Nat) {A : Around} {x y : V} {u v : Value}, A.units + n < cLine -> Sm X.K H n x y -> RelV x u -> RelV y v -> SeqAt.EqAt A s u v true
 | 0, _, _, _, _, _, _, h, rx, ry => yr0 h rx ry
 | n + 1, A, x, y, u, v, hu, h, rx, ry => by
  rcases h with h | ⟨a, b, xs, ys, rfl, rfl, h3, h4, h5, _⟩
  ·exact yr0 h rx ry
  ·cases rx
   cases ry
   by_cases e : a = b
   ·subst e; exact SeqAt.EqAt.same _
   ·refine SeqAt.EqAt.of_refs e ?_
    obtain ⟨its, r, p, _⟩ := I.tuple h3.sq
    obtain ⟨its2, r2, p2, _⟩ := I.tuple h4.sq
    have h := SeqAt.RcAt.tuples (A := A) (e := fun _ => true) p p2 (by omega) (fun j h1 h2 => xb3 I (fun x y u v hr q1 q2 => xb2 I n (by show A.units + 1 + n < cLine; omega) hr q1 q2) h5 r r2 j h1 h2)
    rwa [List.size_toArray, List.size_toArray, yp9 _ _ (by rw [← r.length, ← r2.length]; exact h5.len)] at h
def rNeD (K : PySem.W.Frag) (n : Nat) : R2 := fun x y H Q => SmT K H (Sm K H n) x y /\ Q (.bl false) H
theorem op_neD {n : Nat} (hu : X.A.units + n + 1 < cLine) : OpR X (compareOp .NotEq) (rNeD X.K n) := by
 intro pins s σ H x y v u Q I rx ry h
 obtain ⟨⟨a, b, xs, ys, rfl, rfl, h3, h4, h5, _⟩, q⟩ := h
 cases rx
 cases ry
 obtain ⟨its, r, p, _⟩ := I.tuple h3.sq
 obtain ⟨its2, r2, p2, _⟩ := I.tuple h4.sq
 have h := SeqAt.RcNeAt.tuples (A := X.A) (e := fun _ => true) p p2 (by omega) (fun j h1 h2 => xb3 I (fun x y u v hr q1 q2 => xb2 I n (by show X.A.units + 1 + n < cLine; omega) hr q1 q2) h5 r r2 j h1 h2)
 rw [List.size_toArray, List.size_toArray, yp9 _ _ (by rw [← r.length, ← r2.length]; exact h5.len)] at h
 exact h _ _ _ _ ⟨.bl _, H, I, rfl, q⟩
end
end L2
end
local macro_rules | `(tactic| trivial) => `(tactic| first | exact List.not_mem_nil | exact .head _ | exact .tail _ (.head _) | exact .tail _ (.tail _ (.head _)) | exact fun _ h => absurd h List.not_mem_nil | simp)
section
namespace Gn
open PySem L2
def top (i : Nat) : Stmt := PySem.Challenge.pw_surecall_k13_by_the_tree.main.body.getD i (.Pass ⟨0, 0, 0, 0⟩)
abbrev yv9 : Stmt := top 17
abbrev yw8 : Stmt := top 18
abbrev sOf : Stmt := top 19
structure zv1 (d m t : Int) : Prop where
 d0 : 0 <= d
 m0 : 0 <= m
 m1 : m < 4611686018427387904
 t0 : 0 <= t
def Hand (H : Hp) (a : Addr) (d m t r : Int) : Prop := H a = some (.lst [.int d, .int m, .int t, .int r]) /\ zv1 d m t
abbrev hl (d m t r : Int) : HO := .lst [.int d, .int m, .int t, .int r]
inductive xr6 (vs : List V) (H : Hp) (Q : VK) : Prop
 | mk (a : Addr) (d m t r n : Int) (h1 : vs = [.ref a, .int n]) (h2 : Hand H a d m t r) (h3 : t < 1000000) (h4 : 0 < n) (h5 : n < 1000000) (h6 : ∀ (x d' m' t' : Int), 0 <= x -> x < n -> zv1 d' m' t' -> t' <= t + 1 -> Q (.int x) (upd H a (hl d' m' t' r))) : xr6  vs H Q
def zh5 : Sp := fun vs H Q _ => xr6  vs H Q
theorem eI {X : Cx} {a b : Expr} {ta tb : TE} {pos : Pos} (ha : PE X a ta) (hb : PE X b tb) (hs : yp1 b := by exact fun _ _ => rfl) : PE X (.Subscript a b pos) (tOp (rIxL X.K) ta tb) := zw0 xw0 ha hb hs
section
variable {P : Program} {w : World} {K : PySem.W.Frag} {mg : Str -> Option Value} {base : Heap} {f : Addr} {fd : FuncData}
theorem yt5 : zd3 ["_law_hand_here", "_law_many", "_law_digit", "_law_turn", "_law_mixed"] ["_law_hand_here", "_law_many"] (zb7 yw8) := ⟨rfl, rfl, rfl, by decide +kernel, rfl, by decide +kernel, by decide +kernel⟩
theorem at0 {a b c d : V} : atI [a, b, c, d] 0 = some a := rfl
theorem at1 {a b c d : V} : atI [a, b, c, d] 1 = some b := rfl
theorem at2 {a b c d : V} : atI [a, b, c, d] 2 = some c := rfl
theorem at3 {a b c d : V} : atI [a, b, c, d] 3 = some d := rfl
theorem xx5 {k : Nat} (F : Fun K "_law_take" "_law_take" yw8 f fd) : FnOk P w K mg base CX0 (k + 1) f fd ["_law_hand_here", "_law_many"] zh5 := by
 refine F.ok yt5 (fun vs H Q E h => ?_) (fun cdv A outer s H vs Q E hr h => ?_)
 ·obtain ⟨a, d, m, t, r, n, rfl, _⟩ := h
  rfl
 obtain ⟨a, d, m, t, r, n, rfl, ⟨hH, ok⟩, ht, hn0, hn1, q⟩ := h
 refine ⟨_, zb3 (zh9 (zc7 yd3 (eI (pv 0) zb6) zb6 (zd8 _))
   (zb3 (zc3 (i := 2) yt5.nd rfl (Or.inl rfl) (zf7 zz3 (eI (pv 0) zb6) (pv 1)))
    (zb3 (zt0 (zf7 zx7 (eI (pv 0) zb6) (pv 1)) (yc8 (pv 0) zb6 zp8))
     (zb9 (zd4 (pv 2))))) zd9)
  (zb3 (zt0 (zf7 zp4 (eI (pv 0) zb6) zb6) (yc8 (pv 0) zb6 zp8))
  (zb3 (zc3 (i := 3) yt5.nd rfl (Or.inl rfl) (eI (pv 0) zb6))
  (zb3 (zc3 (i := 4) yt5.nd rfl (Or.inl rfl) (zf7 zz3 (zf7 zw3 (zf7 zp4 (eI (pv 0) zb6) (zf7 zw3 zb6 (pv 3))) (zf7 zp4 zb6 (zf7 zw3 (pv 3) (pv 3)))) zb6))
  (zb3 (zt0 (zf7 zz3 (zf7 zw3 (pv 4) (zf7 zp4 (zf7 zz3 (pv 4) zb6) zb6)) zb6) (yc8 (pv 0) zb6 zp8))
  (zb9 (zd4 (zf7 zz3 (zf7 zx7 (eI (pv 0) zb6) zb6) (pv 1)))))))), ?_⟩
 refine ⟨_, rfl, a, _, _, _, rfl, rfl, SqL.of hH, at0, _, _, rfl, rfl, _, rfl, ?_⟩
 refine ite2 (fun c => ?_) (fun c => ?_)
 ·have c' : d > 0 := of_decide_eq_true c
  refine ⟨_, rfl, a, _, _, _, rfl, rfl, SqL.of hH, at0, _, rfl, _, _, rfl, rfl, hn0, ?_⟩
  refine ⟨_, rfl, a, _, _, _, rfl, rfl, SqL.of hH, at0, _, rfl, _, _, rfl, rfl, ⟨hn0, by omega⟩, ?_⟩
  refine ⟨_, rfl, a, _, 0, 0, rfl, rfl, hH, rfl, ?_⟩
  refine ⟨_, rfl, ?_⟩
  exact q (d % n) (d / n) m t (Int.emod_nonneg _ (by omega)) (Int.emod_lt_of_pos _ hn0) ⟨Int.ediv_nonneg ok.d0 (by omega), ok.m0, ok.m1, ok.t0⟩ (by omega)
 ·refine ⟨_, rfl, a, _, _, _, rfl, rfl, SqL.of hH, at2, _, _, rfl, rfl, ?_⟩
  refine ⟨_, rfl, a, _, 2, 2, rfl, rfl, hH, rfl, ?_⟩
  have H1 : upd H a (.lst ([V.int d, .int m, .int t, .int r].set 2 (.int (t + 1)))) a = some (.lst [.int d, .int m, .int (t + 1), .int r]) := zb1
  refine ⟨_, rfl, a, _, _, _, rfl, rfl, SqL.of H1, at2, ?_⟩
  refine ⟨_, rfl, a, _, _, _, rfl, rfl, SqL.of H1, at1, _, rfl, _, _, rfl, rfl, .inl (by constructor <;> decide), _, _, rfl, rfl, ?_⟩
  refine ⟨_, rfl, _, rfl, _, _, rfl, rfl, .inl ⟨by have := ok.t0; omega, by omega⟩, _, _, rfl, rfl, _, _, rfl, rfl, .inr ?_, _, _, rfl, rfl, ?_, ?_⟩
  ·have h1 : 0 <= (t + 1) * (t + 1) := Int.mul_nonneg (by have := ok.t0; omega) (by have := ok.t0; omega)
   have h2 : (t + 1) * (t + 1) <= 1000000 * 1000000 := Int.mul_le_mul (by omega) (by omega) (by have := ok.t0; omega) (by omega)
   constructor <;> omega
  ·show (0 : Int) < 2305843009213693921
   decide
  have m0 : 0 <= (m + 39373 * (t + 1)) * (48271 + (t + 1) * (t + 1)) % 2305843009213693921 := Int.emod_nonneg _ (by decide)
  have m1 : (m + 39373 * (t + 1)) * (48271 + (t + 1) * (t + 1)) % 2305843009213693921 < 2305843009213693921 := Int.emod_lt_of_pos _ (by decide)
  refine ⟨_, rfl, _, rfl, _, _, rfl, rfl, ?_, _, _, rfl, rfl, _, _, rfl, rfl, .inl ⟨by omega, by omega⟩, _, _, rfl, rfl, ?_, ?_⟩
  ·show (0 : Int) < 1000003
   decide
  ·show (0 : Int) < 2305843009213693907
   decide
  refine ⟨_, rfl, a, _, 1, 1, rfl, rfl, H1, rfl, ?_⟩
  refine ⟨_, rfl, a, _, _, _, rfl, rfl, SqL.of zb1, rfl, _, _, rfl, rfl, ⟨by decide, by decide⟩, _, rfl, _, _, rfl, rfl, hn0, ?_⟩
  rw [zs3]
  exact q _ d _ (t + 1) (Int.emod_nonneg _ (by omega)) (Int.emod_lt_of_pos _ hn0) ⟨ok.d0, Int.emod_nonneg _ (by decide), Int.lt_trans (Int.emod_lt_of_pos _ (by decide)) (by decide), by have := ok.t0; omega⟩ (by omega)
end
end Gn
end
section
namespace Gn
open PySem L2
def FrS (S : List Addr) (H H' : Hp) : Prop := ∀ b o, b ∉ S -> H b = some o -> H' b = some o
theorem FrS.refl {S : List Addr} {H : Hp} : FrS S H H := fun _ _ _ h => h
theorem FrS.trans {S : List Addr} {H H1 H2 : Hp} (a : FrS S H H1) (b : FrS S H1 H2) : FrS S H H2 := fun c o n h => b c o n (a c o n h)
theorem FrS.mono {S T : List Addr} {H H1 : Hp} (a : FrS S H H1) (h : ∀ b ∈ S, b ∈ T) : FrS T H H1 := fun c o n q => a c o (fun z => n (h c z)) q
theorem FrS.chg {S : List Addr} {H : Hp} {a : Addr} {o : HO} (h : a ∈ S) : FrS S H (upd H a o) := fun b u n q => by
 rw [zb5 (fun z => n (by rw [z]; exact h))]; exact q
theorem FrS.new {S : List Addr} {H : Hp} {a : Addr} {o : HO} (h : H a = none) : FrS S H (upd H a o) := fun b u n q => by
 rw [zb5 (zb4 q h)]; exact q
theorem FrS.seq {S : List Addr} {K : PySem.W.Frag} {H H' : Hp} {a : Addr} {xs : List V} (e : FrS S H H') (n : a ∉ S) (h : SqL K H a xs) : SqL K H' a xs := by
 rcases h with (h | ⟨o, h⟩) | h
 ·exact .inl (.inl (e _ _ n h))
 ·exact .inl (.inr ⟨o, e _ _ n h⟩)
 ·exact .inr h
theorem Hand.at {H : Hp} {a : Addr} {d m t r : Int} (h : zv1 d m t) : Hand (upd H a (hl d m t r)) a d m t r := ⟨zb1, h⟩
theorem Hand.new {H : Hp} {a b : Addr} {o : HO} {d m t r : Int} (h : Hand H a d m t r) (n : H b = none) : Hand (upd H b o) a d m t r := ⟨by rw [zb5 (zb4 h.1 n)]; exact h.1, h.2⟩
inductive SpOf (K : PySem.W.Frag) (vs : List V) (H : Hp) (Q : VK) : Prop
 | mk (a p : Addr) (d m t r : Int) (xs : List V) (h1 : vs = [.ref a, .ref p]) (h2 : Hand H a d m t r) (h3 : t < 1000000) (h4 : p ≠ a) (h5 : SqL K H p xs) (h6 : xs ≠ []) (h7 : xs.length < 1000) (h8 : ∀ (x : V) (d' m' t' : Int), x ∈ xs -> zv1 d' m' t' -> t' <= t + 1 -> Q x (upd H a (hl d' m' t' r))) : SpOf K vs H Q
def spOf (K : PySem.W.Frag) : Sp := fun vs H Q _ => SpOf K vs H Q
section
variable {P : Program} {w : World} {K : PySem.W.Frag} {mg : Str -> Option Value} {base : Heap} {f g : Addr} {fd gd : FuncData}
theorem scOf : zd3 ["_law_hand_here", "_law_some"] ["_law_hand_here", "_law_some"] (zb7 sOf) := ⟨rfl, rfl, rfl, by decide +kernel, rfl, by decide +kernel, by decide +kernel⟩
structure Cal (P : Program) (w : World) (K : PySem.W.Frag) (mg : Str -> Option Value) (base : Heap) (k : Nat) (x : Str) (ps : List Str) (sp : Sp) : Prop where
 ex : ∃ g gd, FnOk P w K mg base CX0 k g gd ps sp /\ Binds K gd ps [] /\ PySem.W.keepIn K (.ref g) = true /\ mg x = some (.ref g)
theorem xd6 {xs : List V} {i : Int} (h0 : 0 <= i) (h1 : i < (xs.length : Int)) : ∃ v, atI xs i = some v /\ v ∈ xs := by
 have hk : i.toNat < xs.length := by omega
 have ek : i = ((i.toNat : Nat) : Int) := by omega
 refine ⟨xs[i.toNat], ?_, List.getElem_mem hk⟩
 have := zq2 (xs := xs) (j := i.toNat) (List.getElem?_eq_getElem hk)
 rw [← ek] at this
 exact this
theorem ok_of {k : Nat} (F : Fun K "_law_of" "_law_of" sOf f fd) (T : Cal P w K mg base k "_law_take" ["_law_hand_here", "_law_many"] zh5) (ml : mg "len" = none) :
  FnOk P w K mg base CX0 (k + 1) f fd ["_law_hand_here", "_law_some"] (spOf K) := by
 obtain ⟨g, gd, GT, bT, kT, mT⟩ := T.ex
 refine F.ok scOf (fun vs H Q E h => ?_) (fun cdv A outer s H vs Q E hr h => ?_)
 ·obtain ⟨a, p, d, m, t, r, xs, rfl, _⟩ := h
  rfl
 obtain ⟨a, p, d, m, t, r, xs, rfl, hh, ht, hpa, hS, hne, hlen, q⟩ := h
 refine ⟨_, zb9 (zd4 (eI (pv 1) (zb8 GT hr rfl mT kT bT .nil zc6 (zb0 (pv 0) (zb0 (zd6 zf4 rfl ml PySem.boot_len (zb0 (pv 1) zb2)) zb2))))), ?_⟩
 have hl0 : 0 < xs.length := List.length_pos_iff.mpr hne
 refine ⟨_, rfl, _, rfl, _, rfl, p, _, rfl, .inl hS, a, d, m, t, r, _, rfl, hh, ht, by omega, by omega, fun x d' m' t' h0 h1 ok' ht' => ?_⟩
 obtain ⟨v, hv, hm⟩ := xd6 h0 h1
 have fr : FrS [a] H (upd H a (hl d' m' t' r)) := FrS.chg (by simp)
 exact ⟨p, _, _, v, rfl, rfl, fr.seq (by simpa using hpa) hS, hv, q v d' m' t' hm ok' ht'⟩
end
end Gn
end
section
namespace Gn
open PySem L2
abbrev zn5 : Stmt := top 20
abbrev lets : Str := "abcdefghijklmnopqrstuvwxyz"
def zj4 (pre suf : Str) (c : Nat) : Str := pre ++ ⟨#[c]⟩ ++ suf
def yp8 (pre suf : Str) (c : Nat) : Str := zj4 pre suf c ++ (if zj4 pre suf c = ("own" : Str) then ("q" : Str) else Str.empty)
theorem yg3 (x y : Str) : (x ++ y).cps = x.cps ++ y.cps := rfl
theorem yc4 {pre suf : Str} {c c' : Nat} (h : zj4 pre suf c = zj4 pre suf c') : c = c' := by
 have e : (pre.cps ++ #[c]) ++ suf.cps = (pre.cps ++ #[c']) ++ suf.cps := congrArg Str.cps h
 have e2 := congrArg Array.toList e
 simp at e2
 exact e2
theorem yw7 {pre suf : Str} {c c' : Nat} : (zj4 pre suf c).cps.size = (zj4 pre suf c').cps.size := by
 unfold zj4
 simp [yg3]
theorem yz4 {pre suf : Str} {c c' : Nat} (h : yp8 pre suf c = yp8 pre suf c') : c = c' := by
 have hs := congrArg (fun z : Str => z.cps.size) h
 have hl := yw7 (pre := pre) (suf := suf) (c := c) (c' := c')
 have q1 : ("q" : Str).cps.size = 1 := by decide
 have q0 : Str.empty.cps.size = 0 := by decide
 unfold yp8 at h hs
 by_cases h1 : zj4 pre suf c = ("own" : Str)
 ·by_cases h2 : zj4 pre suf c' = ("own" : Str)
  ·exact yc4 (h1.trans h2.symm)
  ·rw [if_pos h1, if_neg h2] at hs
   simp only [yg3, Array.size_append, q1, q0] at hs
   omega
 ·by_cases h2 : zj4 pre suf c' = ("own" : Str)
  ·rw [if_neg h1, if_pos h2] at hs
   simp only [yg3, Array.size_append, q1, q0] at hs
   omega
  ·rw [if_neg h1, if_neg h2] at h
   have e := congrArg (fun z : Str => z.cps.toList) h
   simp only [yg3, Array.toList_append] at e
   have e2 : (zj4 pre suf c).cps.toList = (zj4 pre suf c').cps.toList := List.append_cancel_right e
   refine yc4 (pre := pre) (suf := suf) ?_
   cases hx : zj4 pre suf c with
   | mk a => cases hy : zj4 pre suf c' with
    | mk b =>
     rw [hx, hy] at e2
     have : a = b := Array.toList_inj.mp e2
     rw [this]
def code (first stride : Int) (k : Nat) : Nat := (97 + (first + stride * (k : Int)) % 26).toNat
def zm8 (pre suf : Str) (first stride : Int) (n : Nat) : List Str := (List.range n).map fun k => yp8 pre suf (code first stride k)
theorem xq8 {first stride : Int} (hs : stride ∈ ([1, 3, 5, 7, 9, 11] : List Int)) (h0 : 0 <= first) {j k : Nat} (hj : j <= 12) (hk : k <= 12) (h : code first stride j = code first stride k) : j = k := by
 unfold code at h
 simp only [List.mem_cons, List.not_mem_nil, or_false] at hs
 rcases hs with rfl | rfl | rfl | rfl | rfl | rfl <;> omega
theorem yn9 {pre suf : Str} {first stride : Int} (hs : stride ∈ ([1, 3, 5, 7, 9, 11] : List Int)) (h0 : 0 <= first) {n : Nat} (hn : n <= 12) : (zm8 pre suf first stride n).Nodup := by
 unfold zm8
 refine List.Pairwise.map _ (R := fun j k => j ≠ k /\ j < n /\ k < n) (fun j k ⟨h1, h2, h3⟩ e => h1 ?_) ?_
 ·exact xq8 hs h0 (by omega) (by omega) (yz4 e)
 ·have : (List.range n).Pairwise (fun j k => j < k) := List.pairwise_lt_range
  refine List.Pairwise.imp_of_mem (fun {a b} ha hb hab => ?_) this
  rw [List.mem_range] at ha hb
  exact ⟨by omega, ha, hb⟩
theorem yh5 {pre suf : Str} {first stride : Int} {n : Nat} : zm8 pre suf first stride (n + 1) = zm8 pre suf first stride n ++ [yp8 pre suf (code first stride n)] := by
 unfold zm8
 rw [List.range_succ, List.map_append]
 rfl
theorem yz6 {i : Int} (h0 : 0 <= i) (h1 : i < 26) : atI lets.cps.toList i = some (97 + i).toNat := by
 have key : ∀ j : Fin 26, lets.cps.toList[j.val]? = some (97 + j.val) := by decide +kernel
 have e : i = ((i.toNat : Nat) : Int) := by omega
 have := zq2 (xs := lets.cps.toList) (j := i.toNat) (key ⟨i.toNat, by omega⟩)
 rw [← e] at this
 rw [this]
 congr 1
 simp only
 omega
def odd : List Str := ["end", "or", "main", "gives", "kind", "under", "late", "deed", "call", "say", "make", "take", "put"]
theorem xh7 : odd.Nodup := by decide +kernel
inductive xj3 (vs : List V) (H : Hp) (Q : VK) : Prop
 | mk (a : Addr) (d m t r : Int) (n : Nat) (h1 : vs = [.ref a, .int (n : Int)]) (h2 : Hand H a d m t r) (h3 : t + 10 < 1000000) (h4 : n <= 12) (h5 : ∀ (p : Addr) (ws : List Str) (d' m' t' : Int) (H' : Hp), FrS [a] H H' -> Hand H' a d' m' t' r -> t' <= t + 10 -> H p = none -> H' p = some (.lst (ws.map V.str)) -> ws.length = n -> ws.Nodup -> Q (.ref p) H') : xj3  vs H Q
def yd8 : Sp := fun vs H Q _ => xj3  vs H Q
end Gn
end
section
namespace Gn
open PySem L2
theorem xt3 {c : Const} {j} {pos : Pos} {es : List Expr} {env : Env} : starEach (.Constant c j pos :: es) env = (false, eval (.Constant c j pos) env) :: starEach es env := by
 first | rfl | (rw [starEach])
theorem yh9 {X : Cx} {x : Str} {j} {pos : Pos} {es : List Expr} {t : TA} (h : PA X es t) : PA X (.Constant (.str x) j pos :: es) (zc4 (tC (.str x)) t) := zb0 zd5 h xt3
theorem zf3 {X : Cx} {x : Int} {j} {pos : Pos} {es : List Expr} {t : TA} (h : PA X es t) : PA X (.Constant (.int x) j pos :: es) (zc4 (tC (.int x)) t) := zb0 zb6 h xt3
def zw8 : List Expr -> Option (List Str)
 | [] => some []
 | .Constant (.str x) _ _ :: r => (zw8 r).map (x :: ·)
 | _ => none
theorem xk0 {X : Cx} : ∀ (es : List Expr) (ss : List Str), zw8 es = some ss -> PA X es (fun _ H Q => Q (ss.map V.str) H)
 | [], ss, h => by
  cases h
  exact zb2
 | e :: r, ss, h => by
  cases e with
  | Constant c j pos =>
   cases c with
   | str x =>
    have h : (zw8 r).map (x :: ·) = some ss := h
    cases hr : zw8 r with
    | none => rw [hr] at h; cases h
    | some rs =>
     rw [hr] at h
     cases h
     exact yh9 (xk0 r rs hr)
   | _ => cases h
  | _ => cases h
def xg0 (e : Expr) : Option (List Str) := match e with
 | .List es _ => zw8 es
 | _ => none
theorem wb8 {X : Cx} {e : Expr} {ss : List Str} (h : xg0 e = some ss) : PE X e (fun _ H Q => ss.length <= sizeLine /\ ∀ p, H p = none -> Q (.ref p) (upd H p (.lst (ss.map V.str)))) := by
 cases e with
 | List es pos =>
  have q := zd7 (pos := pos) (xk0 (X := X) es ss h)
  intro pins s σ H Q I hq
  exact q pins s σ H Q I ⟨by rw [lqm]; exact hq.1, hq.2⟩
 | _ => cases h
def val1 (l : List Stmt) : Expr := match l with
 | .Assign _ v _ :: _ => v
 | _ => .Constant .none 0 ⟨0, 0, 0, 0⟩
def set1 (l : List Stmt) (v : Expr) : List Stmt := match l with
 | .Assign t _ p :: r => .Assign t v p :: r
 | l => l
theorem body {X : Cx} {l l' : List Stmt} {t : TS} (e : l = l') (h : PSs X l' t) : PSs X l t := by subst e; exact h
theorem xj1 (xs : List V) {n : Nat} (h : n <= xs.length) : cutV xs none (some (n : Int)) = xs.take n := by
 unfold cutV
 rw [HT.yq8, HT.yg1, Nat.min_eq_left h]
 simp
theorem yr9 (xs : List V) {n : Nat} (h : n <= xs.length) : cutV xs (some (n : Int)) none = xs.drop n := by
 unfold cutV
 rw [HT.yq8, HT.yg1, Nat.min_eq_left h]
 exact List.take_of_length_le (by rw [List.length_drop]; omega)
theorem zs8 {a p : Addr} {H H' : Hp} {d m t r : Int} (f : FrS [a] H H') (h : Hand H' a d m t r) (hp : H' p = none) : H p = none := by
 cases hz : H p with
 | none => rfl
 | some o =>
  have hpa : p ≠ a := fun e => by rw [e, h.1] at hp; cases hp
  have := f p o (by simpa using hpa) hz
  rw [hp] at this; cases this
section
variable {P : Program} {w : World} {K : PySem.W.Frag} {mg : Str -> Option Value} {base : Heap} {f g : Addr} {fd gd : FuncData}
abbrev nWords : List Str := ["_law_hand_here", "_law_many", "_law_odd", "_law_first", "_law_letters", "_law_stem", "_law_k", "_law_at", "_law_stride", "_law_words_here", "_law_word"]
theorem zj6 : zd3 nWords ["_law_hand_here", "_law_many"] (zb7 zn5) := ⟨rfl, rfl, rfl, by decide +kernel, rfl, by decide +kernel, by decide +kernel⟩
set_option maxHeartbeats 800000 in
theorem xp6 {k : Nat} (F : Fun K "_law_words" "_law_words" zn5 f fd) (T : Cal P w K mg base k "_law_take" ["_law_hand_here", "_law_many"] zh5) (ml : mg "len" = none) (mr : mg "range" = none) (mi : mg "int" = none) :
  FnOk P w K mg base CX0 (k + 1) f fd ["_law_hand_here", "_law_many"] yd8 := by
 obtain ⟨g, gd, GT, bT, kT, mT⟩ := T.ex
 refine F.ok zj6 (fun vs H Q E h => ?_) (fun cdv A outer s H vs Q E hr h => ?_)
 ·obtain ⟨a, d, m, t, r, n, rfl, _⟩ := h
  rfl
 obtain ⟨a, d, m, t, r, n, rfl, hh, ht, hn, q⟩ := h
 have s1 : ∀ {n : Nat}, n <= 1000 -> n <= sizeLine := fun h => Nat.le_of_lt (zc2 h)
 have eB : zc5 zn5 = set1 (zc5 zn5) (val1 (zc5 zn5)) := rfl
 have hO : xg0 (val1 (zc5 zn5)) = some odd := by decide +kernel
 have hsw : ∀ (x : Str) (p : Pos) (n : Nat) (env : Env), swapsWith (val1 (zc5 zn5)) (some (.Name x p)) n env = pure false := fun _ _ _ _ => rfl
 rw [eB]
 generalize val1 (zc5 zn5) = L at hO hsw
 refine ⟨_, zb3 (zc3 (i := 2) zj6.nd rfl (Or.inl rfl) (wb8 hO) (hsw _ _ _ _))
  (zb3 (zh9 (zc7 zp1 (zb8 GT hr rfl mT kT bT .nil zc6 (zb0 (pv 0) (zb0 zb6 zb2))) zb6 (zd8 _))
   (zb3 (zc3 (i := 3) zj6.nd rfl (Or.inl rfl) (zb8 GT hr rfl mT kT bT .nil zc6 (zb0 (pv 0) (zb0 zb6 zb2))))
    (zb9 (zd4 (zj8 zs6 (zf7 yc3 (zj8 zs6 (pv 2) (zk8 (pv 3)) zm1) (zj8 zs6 (pv 2) zm1 (zk8 (pv 3)))) zm1 (zk8 (pv 1)))))) zd9)
  (zb3 (zc3 (i := 4) zj6.nd rfl (Or.inl rfl) zd5)
  (zb3 (zc3 (i := 5) zj6.nd rfl (Or.inl rfl) zd5)
  (zb3 (zg6 PassesOwn.never rfl (zk5 rfl mr (zb0 (zb8 GT hr rfl mT kT bT .nil zc6 (zb0 (pv 0) (zb0 zb6 zb2))) zb2)) (zc0 (i := 6) zj6.nd rfl (Or.inl rfl))
   (zb9 (zc3 (i := 5) zj6.nd rfl (Or.inl rfl) (zf7 zp7 (pv 5) (zw0 xv3 (pv 4) (zb8 GT hr rfl mT kT bT .nil zc6 (zb0 (pv 0) (zb0 zb6 zb2))) (fun _ _ => rfl))))))
  (zb3 (zc3 (i := 7) zj6.nd rfl (Or.inl rfl) (zb8 GT hr rfl mT kT bT .nil zc6 (zb0 (pv 0) (zb0 (zf7 zp4 (zd6 yh1 rfl ml PySem.boot_len (zb0 (pv 5) zb2)) zb6) zb2))))
  (zb3 (zc3 (i := 3) zj6.nd rfl (Or.inl rfl) (zb8 GT hr rfl mT kT bT .nil zc6 (zb0 (pv 0) (zb0 zb6 zb2))))
  (zb3 (zc3 (i := 8) zj6.nd rfl (Or.inl rfl) (eI (zd7 (zf3 (zf3 (zf3 (zf3 (zf3 (zf3 zb2))))))) (zb8 GT hr rfl mT kT bT .nil zc6 (zb0 (pv 0) (zb0 zb6 zb2)))))
  (zb3 (zc3 (i := 9) zj6.nd rfl (Or.inl rfl) (zd7 zb2))
  (zb3 (zg6 PassesOwn.never rfl (zk5 rfl mr (zb0 (pv 1) zb2)) (zc0 (i := 6) zj6.nd rfl (Or.inl rfl))
   (zb3 (zc3 (i := 10) zj6.nd rfl (Or.inl rfl) (zf7 zp7 (zf7 zp7 (zj8 xs2 (pv 5) zm1 (zk8 (pv 7))) (zw0 xv3 (pv 4) (zf7 zz3 (zf7 zp4 (pv 3) (zf7 zw3 (pv 8) (pv 6))) zb6) (fun _ _ => rfl))) (zj8 xs2 (pv 5) (zk8 (pv 7)) zm1)))
    (zb9 (zg2 (zk6 PySem.F.plainAttrs_list PySem.F.slot_list_append PySem.F.type_list_append zf0 (pv 9) (zb0 (zf7 zp7 (pv 10) (zf7 xz0 zd5 (zd1 zr1 rfl mi (by decide +kernel) (zb0 (zn2 zp1 (pv 10) zd5 (zd8 _)) zb2)))) zb2))))))
  (zb9 (zd4 (pv 9)))))))))))), ?_⟩
 refine ⟨s1 (by show 13 <= 1000; decide), fun po hpo => ?_⟩
 have hh1 : Hand (upd H po (.lst (odd.map V.str))) a d m t r := hh.new hpo
 have fr1 : FrS [a] H (upd H po (.lst (odd.map V.str))) := FrS.new hpo
 have hpa : po ≠ a := fun e => by rw [e, hh.1] at hpo; cases hpo
 refine ⟨_, rfl, a, d, m, t, r, 8, rfl, hh1, by omega, by decide, by decide, fun x d1 m1 t1 x0 x1 ok1 ht1 => ?_⟩
 have fr2 : FrS [a] H _ := fr1.trans (FrS.chg (a := a) (o := hl d1 m1 t1 r) (by simp))
 have hpo2 : upd (upd H po (.lst (odd.map V.str))) a (hl d1 m1 t1 r) po = some (.lst (odd.map V.str)) := by rw [zb5 hpa, zb1]
 have hh2 : Hand (upd (upd H po (.lst (odd.map V.str))) a (hl d1 m1 t1 r)) a d1 m1 t1 r := Hand.at ok1
 generalize upd (upd H po (.lst (odd.map V.str))) a (hl d1 m1 t1 r) = H2 at *
 refine ⟨rfl, _, rfl, ?_⟩
 refine ite2 (fun c => ?_) (fun c => ?_)
 ·refine ⟨_, rfl, a, d1, m1, t1, r, 13, rfl, hh2, by omega, by decide, by decide, fun y d2 m2 t2 y0 y1 ok2 ht2 => ?_⟩
  have fr3 : FrS [a] H _ := fr2.trans (FrS.chg (a := a) (o := hl d2 m2 t2 r) (by simp))
  have hpo3 : upd H2 a (hl d2 m2 t2 r) po = some (.lst (odd.map V.str)) := by rw [zb5 hpa]; exact hpo2
  have hh3 : Hand (upd H2 a (hl d2 m2 t2 r)) a d2 m2 t2 r := Hand.at ok2
  generalize upd H2 a (hl d2 m2 t2 r) = H3 at *
  obtain ⟨j, rfl⟩ : ∃ j : Nat, y = (j : Int) := ⟨y.toNat, by omega⟩
  have hj : j <= (odd.map V.str).length := by show j <= 13; omega
  refine ⟨_, rfl, _, rfl, _, rfl, po, _, rfl, SqL.of hpo3, fun p1 hp1 => ?_⟩
  have e1 : ∀ o, upd H3 p1 o po = some (.lst (odd.map V.str)) := fun o => by rw [zb5 (zb4 hpo3 hp1)]; exact hpo3
  refine ⟨_, rfl, _, rfl, _, rfl, po, _, rfl, SqL.of (e1 _), fun p2 hp2 => ?_⟩
  have e2 : p1 ≠ p2 := fun z => by rw [← z, zb1] at hp2; cases hp2
  rw [yr9 _ hj, xj1 _ hj] at *
  have hlr : ((odd.map V.str).drop j).length + ((odd.map V.str).take j).length <= sizeLine := by
   rw [List.length_drop, List.length_take]
   exact s1 (by show (odd.map V.str).length - j + min j (odd.map V.str).length <= 1000; have : (odd.map V.str).length = 13 := rfl; omega)
  refine ⟨p1, p2, _, _, rfl, rfl, by rw [zb5 e2]; exact zb1, zb1, hlr, fun p3 hp3 => ?_⟩
  refine ⟨_, rfl, _, rfl, p3, _, rfl, SqL.of zb1, fun p4 hp4 => ?_⟩
  have hrot : (odd.map V.str).drop j ++ (odd.map V.str).take j = ((odd.drop j ++ odd.take j)).map V.str := by rw [List.map_append, List.map_drop, List.map_take]
  have hlo : (odd.drop j ++ odd.take j).length = 13 := by
   rw [List.length_append, List.length_drop, List.length_take]
   have : odd.length = 13 := rfl
   omega
  have hno : (odd.drop j ++ odd.take j).Nodup := by
   have hp : (odd.drop j ++ odd.take j).Perm odd := List.perm_append_comm.trans (by rw [List.take_append_drop])
   exact hp.nodup_iff.mpr xh7
  rw [hrot] at hp4 ⊢
  rw [xj1 _ (by rw [lqm, hlo]; omega)]
  have f1 : FrS [a] H3 (upd H3 p1 (.lst ((odd.map V.str).drop j))) := FrS.new hp1
  refine q p4 ((odd.drop j ++ odd.take j).take n) d2 m2 t2 _ (fr3.trans ((f1.trans (FrS.new hp2)).trans ((FrS.new hp3).trans (FrS.new hp4)))) (((((hh3.new hp1).new hp2).new hp3).new hp4)) (by omega) ?_ (by rw [zb1, List.map_take]) (by rw [List.length_take, hlo]; omega) (hno.sublist (List.take_sublist _ _))
  exact zs8 (H' := upd (upd (upd H3 p1 _) p2 _) p3 _) (fr3.trans ((f1.trans (FrS.new hp2)).trans (FrS.new hp3))) (((hh3.new hp1).new hp2).new hp3) hp4
 ·-- the loop that makes the stem
  refine ⟨_, rfl, a, d1, m1, t1, r, 5, rfl, hh2, by omega, by decide, by decide, fun y d2 m2 t2 y0 y1 ok2 ht2 => ?_⟩
  have fr3 : FrS [a] H _ := fr2.trans (FrS.chg (a := a) (o := hl d2 m2 t2 r) (by simp))
  have hh3 : Hand (upd H2 a (hl d2 m2 t2 r)) a d2 m2 t2 r := Hand.at ok2
  generalize upd H2 a (hl d2 m2 t2 r) = H3 at *
  refine ⟨_, rfl, by omega, by omega, zn7 (lo := 0) (n := y.toNat) (fun i σ Hx => ∃ (stem : Str) (kx : Option V) (dx mx tx : Int), σ = [some (.ref a), some (.int n), some (.ref po), none, some (.str lets), some (.str stem), kx, none, none, none, none] /\
   stem.length <= i /\ FrS [a] H Hx /\ Hand Hx a dx mx tx r /\ tx <= t2 + i) ⟨Str.empty, none, d2, m2, t2, rfl, Nat.le_refl _, fr3, hh3, by omega⟩ (fun i σ Hx hi ⟨stem, kx, dx, mx, tx, hσ, hst, frx, hhx, htx⟩ => ?_) (fun σ Hx ⟨stem, kx, dx, mx, tx, hσ, hst, frx, hhx, htx⟩ => ?_)⟩
  ·subst hσ
   refine ⟨_, rfl, _, rfl, _, rfl, a, dx, mx, tx, r, 26, rfl, hhx, by omega, by decide, by decide, fun z d3 m3 t3 z0 z1 ok3 ht3 => ?_⟩
   refine ⟨lets, z, _, rfl, rfl, s1 (by decide), yz6 z0 z1, ?_⟩
   refine ⟨stem, _, rfl, rfl, ?_, ?_⟩
   ·show stem.length + 1 <= sizeLine
    exact s1 (by omega)
   ·refine ⟨_, _, d3, m3, t3, rfl, ?_, frx.trans (FrS.chg (by simp)), Hand.at ok3, by omega⟩
    show (stem.cps ++ #[_]).size <= i + 1
    rw [Array.size_append]
    show stem.length + 1 <= i + 1
    omega
  ·subst hσ
   have hl1 : (y.toNat : Int) <= 4 := by omega
   refine ⟨_, rfl, _, rfl, _, rfl, s1 (by omega), _, _, rfl, rfl, a, dx, mx, tx, r, _, rfl, hhx, by omega, by omega, by omega, fun u d4 m4 t4 u0 u1 ok4 ht4 => ?_⟩
   have fr4 : FrS [a] H _ := frx.trans (FrS.chg (a := a) (o := hl d4 m4 t4 r) (by simp))
   have hh4 : Hand (upd Hx a (hl d4 m4 t4 r)) a d4 m4 t4 r := Hand.at ok4
   generalize upd Hx a (hl d4 m4 t4 r) = H4 at *
   refine ⟨_, rfl, a, d4, m4, t4, r, 26, rfl, hh4, by omega, by decide, by decide, fun v d5 m5 t5 v0 v1 ok5 ht5 => ?_⟩
   have fr5 : FrS [a] H _ := fr4.trans (FrS.chg (a := a) (o := hl d5 m5 t5 r) (by simp))
   have hh5 : Hand (upd H4 a (hl d5 m5 t5 r)) a d5 m5 t5 r := Hand.at ok5
   generalize upd H4 a (hl d5 m5 t5 r) = H5 at *
   refine ⟨s1 (by show 6 <= 1000; decide), fun ps hps => ?_⟩
   have hh6 := hh5.new (o := .lst [.int 1, .int 3, .int 5, .int 7, .int 9, .int 11]) hps
   have hpsa : ps ≠ a := fun e => by rw [e, hh5.1] at hps; cases hps
   refine ⟨_, rfl, a, d5, m5, t5, r, 6, rfl, hh6, by omega, by decide, by decide, fun z d6 m6 t6 z0 z1 ok6 ht6 => ?_⟩
   obtain ⟨sv, hsv, hsm⟩ := xd6 (xs := [V.int 1, .int 3, .int 5, .int 7, .int 9, .int 11]) z0 z1
   refine ⟨ps, _, _, sv, rfl, rfl, SqL.of (by rw [zb5 hpsa, zb1]), hsv, ?_⟩
   have fr6 : FrS [a] H _ := (fr5.trans (FrS.new (o := .lst [.int 1, .int 3, .int 5, .int 7, .int 9, .int 11]) hps)).trans (FrS.chg (a := a) (o := hl d6 m6 t6 r) (by simp))
   have hh7 : Hand (upd (upd H5 ps (.lst [.int 1, .int 3, .int 5, .int 7, .int 9, .int 11])) a (hl d6 m6 t6 r)) a d6 m6 t6 r := Hand.at ok6
   obtain ⟨stride, rfl, hstr⟩ : ∃ st : Int, sv = .int st /\ st ∈ ([1, 3, 5, 7, 9, 11] : List Int) := by
    simp only [List.mem_cons, List.not_mem_nil, or_false] at hsm
    rcases hsm with rfl | rfl | rfl | rfl | rfl | rfl
    all_goals exact ⟨_, rfl, by simp⟩
   have hstb : 0 <= stride /\ stride <= 11 := by
    simp only [List.mem_cons, List.not_mem_nil, or_false] at hstr
    omega
   refine ⟨s1 (by decide), fun pw hpw => ?_⟩
   have hfree := zs8 fr6 hh7 hpw
   have fr8 : FrS [a] H _ := fr6.trans (FrS.new (o := .lst []) hpw)
   have hh8 := hh7.new (o := .lst []) hpw
   have hpw8 : upd (upd (upd H5 ps (.lst [.int 1, .int 3, .int 5, .int 7, .int 9, .int 11])) a (hl d6 m6 t6 r)) pw (.lst []) pw = some (.lst []) := zb1
   have hpwa : pw ≠ a := fun e => by rw [e, hh7.1] at hpw; cases hpw
   generalize upd (upd (upd H5 ps (.lst [.int 1, .int 3, .int 5, .int 7, .int 9, .int 11])) a (hl d6 m6 t6 r)) pw (.lst []) = H8 at *
   refine ⟨_, rfl, n, rfl, by omega, by omega, zn7 (lo := 0) (n := (n : Int).toNat) (fun i σ Hx => ∃ (kx wx : Option V), σ = [some (.ref a), some (.int n), some (.ref po), some (.int v), some (.str lets), some (.str stem), kx, some (.int u), some (.int stride), some (.ref pw), wx] /\
    FrS [a] H Hx /\ Hand Hx a d6 m6 t6 r /\ Hx pw = some (.lst ((zm8 (Txt.slice stem none (some u)) (Txt.slice stem (some u) none) v stride i).map V.str))) ⟨kx, none, rfl, fr8, hh8, hpw8⟩ (fun i σ Hx hi ⟨kx, wx, hσ, fry, hhy, hwy⟩ => ?_) (fun σ Hx ⟨kx, wx, hσ, fry, hhy, hwy⟩ => ?_)⟩
   ·subst hσ
    have hi' : i < n := by omega
    have hsl : stem.length <= sizeLine := s1 (by omega)
    have pl := Txt.slice_le stem none (some u)
    have sl := Txt.slice_le stem (some u) none
    have hk0 : 0 <= (v + stride * (0 + (i : Int))) % 26 := Int.emod_nonneg _ (by decide)
    have hk1 : (v + stride * (0 + (i : Int))) % 26 < 26 := Int.emod_lt_of_pos _ (by decide)
    refine ⟨_, rfl, _, rfl, u, rfl, stem, rfl, hsl, _, rfl, _, rfl, _, rfl, _, rfl, _, _, rfl, rfl, .inl ⟨by omega, by omega⟩, _, _, rfl, rfl, _, _, rfl, rfl, by show (0 : Int) < 26; decide, lets, _, _, rfl, rfl, s1 (by decide), yz6 hk0 hk1,
     _, _, rfl, rfl, ?_, _, rfl, _, rfl, u, rfl, stem, rfl, hsl, _, _, rfl, rfl, ?_, ?_⟩
    ·show (Txt.slice stem none (some u)).length + 1 <= sizeLine
     exact s1 (by omega)
    ·have e : (Txt.slice stem none (some u) ++ (⟨#[(97 + (v + stride * (0 + (i : Int))) % 26).toNat]⟩ : Str)).length = (Txt.slice stem none (some u)).length + 1 := by
      show (_ ++ #[_]).size = _
      rw [Array.size_append]
      rfl
     show (Txt.slice stem none (some u) ++ (⟨#[(97 + (v + stride * (0 + (i : Int))) % 26).toNat]⟩ : Str)).length + (Txt.slice stem (some u) none).length <= sizeLine
     rw [e]
     exact s1 (by omega)
    have ew : Txt.slice stem none (some u) ++ (⟨#[(97 + (v + stride * (0 + (i : Int))) % 26).toNat]⟩ : Str) ++ Txt.slice stem (some u) none = zj4 (Txt.slice stem none (some u)) (Txt.slice stem (some u) none) (code v stride i) := by
     unfold zj4 code
     rw [Int.zero_add]
    have hwl : (zj4 (Txt.slice stem none (some u)) (Txt.slice stem (some u) none) (code v stride i)).length <= 20 := by
     show ((_ ++ #[_]) ++ _).size <= 20
     rw [Array.size_append, Array.size_append]
     show (Txt.slice stem none (some u)).length + 1 + (Txt.slice stem (some u) none).length <= 20
     omega
    rw [ew]
    generalize hw : zj4 (Txt.slice stem none (some u)) (Txt.slice stem (some u) none) (code v stride i) = wd at *
    refine ⟨_, rfl, .inl ⟨rfl, _, SqL.of hwy⟩, _, rfl, _, rfl, rfl, .inr ⟨_, rfl, _, _, rfl, rfl, ?_, _, _, rfl, rfl, ?_, pw, _, _, rfl, rfl, hwy, ?_, ?_⟩⟩
    ·cases decide (V.str wd = V.str ("own" : Str)) <;> simp
    ·have h1 : ∀ c : Prop, [Decidable c] -> (if c then Str.empty else ("q" : Str)).length <= 1 := fun c _ => by
      by_cases h : c
      ·rw [if_pos h]; decide
      ·rw [if_neg h]; decide
     have h2 := h1 ((if decide (V.str wd = V.str ("own" : Str)) = true then (1 : Int) else 0) = 0)
     exact s1 (by omega)
    ·have : ((zm8 (Txt.slice stem none (some u)) (Txt.slice stem (some u) none) v stride i).map V.str).length = i := by
      unfold zm8
      rw [lqm, lqm, List.length_range]
     rw [this]
     exact zc2 (by omega)
    ·refine ⟨_, _, rfl, ?_, ?_, ?_⟩
     ·intro b o hb hx
      rw [zb5 (fun e => by rw [e, hfree] at hx; cases hx)]
      exact fry b o hb hx
     ·exact ⟨by rw [zb5 (Ne.symm hpwa)]; exact hhy.1, hhy.2⟩
     ·rw [zb1, yh5, List.map_append]
      have e1 : yp8 (Txt.slice stem none (some u)) (Txt.slice stem (some u) none) (code v stride i) = wd ++ (if (if decide (V.str wd = V.str ("own" : Str)) = true then (1 : Int) else 0) = 0 then Str.empty else ("q" : Str)) := by
       unfold yp8
       rw [hw]
       by_cases h : wd = ("own" : Str)
       ·rw [if_pos h, if_pos (decide_eq_true (by rw [h])), if_neg (by decide)]
       ·have h' : ¬ (V.str wd = V.str ("own" : Str)) := fun z => h (V.str.inj z)
        rw [if_neg h, decide_eq_false h']
        rfl
      rw [e1]
      rfl
   ·subst hσ
    refine ⟨_, rfl, ?_⟩
    rw [Int.toNat_natCast] at hwy
    refine q pw _ d6 m6 t6 Hx fry hhy (by omega) hfree hwy (by unfold zm8; rw [lqm, List.length_range]) (yn9 hstr v0 hn)
end
end Gn
end
section
namespace Gn
open PySem L2
inductive xv4 (K : PySem.W.Frag) (vs : List V) (H : Hp) (Q : VK) : Prop
 | mk (p : Addr) (ns : List Int) (k : Nat) (h1 : vs = [.ref p, .int (k : Int)]) (h2 : SqL K H p (ns.map V.int)) (h3 : ns.length <= 63) (h4 : k <= 63) (h5 : ∀ (a : Addr) (d m : Int), H a = none -> zv1 d m 0 -> Q (.ref a) (upd H a (hl d m 0 0))) : xv4 K vs H Q
def yz5 (K : PySem.W.Frag) : Sp := fun vs H Q _ => xv4 K vs H Q
section
variable {P : Program} {w : World} {K : PySem.W.Frag} {mg : Str -> Option Value} {base : Heap} {f : Addr} {fd : FuncData}
theorem xj2 : zd3 ["_law_script", "_law_k", "_law_cell"] ["_law_script", "_law_k"] (zb7 yv9) := ⟨rfl, rfl, rfl, by decide +kernel, rfl, by decide +kernel, by decide +kernel⟩
theorem yq3 {c k : Int} (h0 : 0 <= c) (k0 : 0 <= k) (k1 : k <= 63) (b : Bool) : zv1 (c * (if b then 1 else 0)) (c % 2305843009213693951 + 7919 * k + 11) 0 := by
 have h1 : 0 <= c % 2305843009213693951 := Int.emod_nonneg _ (by decide)
 have h2 : c % 2305843009213693951 < 2305843009213693951 := Int.emod_lt_of_pos _ (by decide)
 refine ⟨?_, by omega, by omega, Int.le_refl 0⟩
 cases b
 ·show 0 <= c * 0
  omega
 ·show 0 <= c * 1
  omega
theorem xw2 {k : Nat} (F : Fun K "_law_hand" "_law_hand" yv9 f fd) (ml : mg "len" = none) (ma : mg "abs" = none) (mi : mg "int" = none) : FnOk P w K mg base CX0 (k + 1) f fd ["_law_script", "_law_k"] (yz5 K) := by
 refine F.ok xj2 (fun vs H Q E h => ?_) (fun cdv A outer s H vs Q E hr h => ?_)
 ·obtain ⟨p, ns, k, rfl, _⟩ := h
  rfl
 obtain ⟨p, ns, j, rfl, hS, h63, hk, q⟩ := h
 refine ⟨_, zb3 (zc3 (i := 2) xj2.nd rfl (Or.inl rfl) zb6)
  (zb3 (zh9 (zc7 xc0 (pv 1) (zd6 zf4 rfl ml PySem.boot_len (zb0 (pv 0) zb2)) (zd8 _))
   (zb9 (zc3 (i := 2) xj2.nd rfl (Or.inl rfl) (zd6 xn4 rfl ma (by decide +kernel) (zb0 (eI (pv 0) (pv 1)) zb2)))) zd9)
  (zb9 (zd4 (zd7 (zb0 (zf7 zw3 (pv 2) (zd1 zr1 rfl mi (by decide +kernel) (zb0 (zn2 op_ge (pv 2) (zf7 op_pow zb6 zb6) (zd8 _)) zb2)))
   (zb0 (zf7 zp4 (zf7 zp4 (zf7 zz3 (pv 2) zb6) (zf7 zw3 zb6 (pv 1))) zb6) (zb0 zb6 (zb0 zb6 zb2)))))))), ?_⟩
 have s1 : ∀ {n : Nat}, n <= 1000 -> n <= sizeLine := fun h => Nat.le_of_lt (zc2 h)
 have hl : (ns.map V.int).length = ns.length := List.length_map _
 refine ⟨_, rfl, _, rfl, p, _, rfl, .inl hS, _, _, rfl, rfl, _, rfl, ?_⟩
 refine ite2 (fun c => ?_) (fun c => ?_)
 ·have c' : (j : Int) < (((ns.map V.int).length : Nat) : Int) := of_decide_eq_true c
  rw [hl] at c'
  have hj : j < ns.length := by omega
  have hv : atI (ns.map V.int) (j : Int) = some (.int ns[j]) := zq2 (by rw [List.getElem?_map, List.getElem?_eq_getElem hj]; rfl)
  refine ⟨_, rfl, _, rfl, p, _, _, _, rfl, rfl, hS, hv, _, rfl, ?_⟩
  have c0 : 0 <= (if ns[j] < 0 then -ns[j] else ns[j]) := by split <;> omega
  refine ⟨_, rfl, _, rfl, _, _, rfl, rfl, ⟨by decide, by decide, by decide⟩, _, _, rfl, rfl, .inr ⟨_, rfl, _, _, rfl, rfl, .inr ?_, _, rfl, _, _, rfl, rfl, by show (0 : Int) < 2305843009213693951; decide, _, rfl, _, _, rfl, rfl, .inl (by constructor <;> decide), _, _, rfl, rfl, _, _, rfl, rfl, s1 (by show 4 <= 1000; decide), fun a ha => ?_⟩⟩
  ·cases decide ((if ns[j] < 0 then -ns[j] else ns[j]) ≥ 10 ^ (18 : Int).toNat) <;> (constructor <;> decide)
  ·exact q a _ _ ha (yq3 c0 (by omega) (by omega) _)
 ·refine ⟨_, rfl, _, rfl, _, _, rfl, rfl, ⟨by decide, by decide, by decide⟩, _, _, rfl, rfl, .inr ⟨_, rfl, _, _, rfl, rfl, .inr ?_, _, rfl, _, _, rfl, rfl, by show (0 : Int) < 2305843009213693951; decide, _, rfl, _, _, rfl, rfl, .inl (by constructor <;> decide), _, _, rfl, rfl, _, _, rfl, rfl, s1 (by show 4 <= 1000; decide), fun a ha => ?_⟩⟩
  ·cases decide ((0 : Int) ≥ 10 ^ (18 : Int).toNat) <;> (constructor <;> decide)
  ·exact q a _ _ ha (yq3 (Int.le_refl 0) (by omega) (by omega) _)
end
end Gn
end
section
namespace Gn
open PySem L2
abbrev Tr := List (Str × Option Str)
structure TrOk (tr : Tr) : Prop where
 nd : (tr.map (·.1)).Nodup
 up : ∀ (i : Nat) n e, tr[i]? = some (n, some e) -> ∃ j, j < i /\ ∃ g, tr[j]? = some (e, g)
theorem TrOk.nil : TrOk [] := ⟨List.nodup_nil, fun i n e h => by simp at h⟩
theorem TrOk.snoc {tr : Tr} {n : Str} {e : Option Str} (h : TrOk tr) (hn : n ∉ tr.map (·.1)) (he : ∀ x, e = some x -> x ∈ tr.map (·.1)) : TrOk (tr ++ [(n, e)]) := by
 refine ⟨?_, fun i n' e' hi => ?_⟩
 ·rw [List.map_append]
  exact yn8 h.nd hn
 ·by_cases hlt : i < tr.length
  ·rw [List.getElem?_append_left hlt] at hi
   obtain ⟨j, hj, g, hg⟩ := h.up i n' e' hi
   exact ⟨j, hj, g, by rw [List.getElem?_append_left (by omega)]; exact hg⟩
  ·rw [List.getElem?_append_right (by omega)] at hi
   have h0 : i - tr.length = 0 := by
    cases hz : i - tr.length with
    | zero => rfl
    | succ k => rw [hz] at hi; simp at hi
   rw [h0] at hi
   simp only [List.getElem?_cons_zero, Option.some.injEq, Prod.mk.injEq] at hi
   obtain ⟨_, he'⟩ := hi
   obtain ⟨p, hp, e1⟩ := List.mem_map.mp (he e' he')
   obtain ⟨j, hj, ej⟩ := List.getElem_of_mem hp
   exact ⟨j, by omega, p.2, by rw [List.getElem?_append_left hj, List.getElem?_eq_getElem hj, ej, ← e1]⟩
theorem TrOk.one {tr : Tr} (h : TrOk tr) {i j : Nat} {n : Str} {a b : Option Str} (hi : tr[i]? = some (n, a)) (hj : tr[j]? = some (n, b)) : i = j := by
 have e1 : (tr.map (·.1))[i]? = some n := by rw [List.getElem?_map, hi]; rfl
 have e2 : (tr.map (·.1))[j]? = some n := by rw [List.getElem?_map, hj]; rfl
 obtain ⟨h1, e1⟩ := List.getElem?_eq_some_iff.mp e1
 obtain ⟨h2, e2⟩ := List.getElem?_eq_some_iff.mp e2
 exact (List.getElem_inj h.nd).mp (e1.trans e2.symm)
inductive Up (tr : Tr) : Str -> List Str -> Prop
 | root {i : Nat} {n : Str} : tr[i]? = some (n, none) -> Up tr n [n]
 | step {i : Nat} {n e : Str} {l : List Str} : tr[i]? = some (n, some e) -> Up tr e l -> Up tr n (n :: l)
theorem Up.exists {tr : Tr} (h : TrOk tr) : ∀ (i : Nat) n g, tr[i]? = some (n, g) -> ∃ l, Up tr n l := by
 intro i
 induction i using Nat.strongRecOn with
 | ind i ih =>
  intro n g hi
  cases g with
  | none => exact ⟨_, .root hi⟩
  | some e =>
   obtain ⟨j, hj, g', hg⟩ := h.up i n e hi
   obtain ⟨l, hl⟩ := ih j hj e g' hg
   exact ⟨_, .step hi hl⟩
theorem Up.inj {tr : Tr} (h : TrOk tr) {n : Str} {l l' : List Str} (a : Up tr n l) (b : Up tr n l') : l = l' := by
 induction a generalizing l' with
 | root hi =>
  cases b with
  | root _ => rfl
  | step hj _ => have := h.one hi hj; subst this; rw [hi] at hj; cases hj
 | step hi _ ih =>
  cases b with
  | root hj => have := h.one hi hj; subst this; rw [hi] at hj; cases hj
  | step hj hb =>
   have := h.one hi hj
   subst this
   rw [hi] at hj
   cases hj
   rw [ih hb]
theorem Up.mem {tr : Tr} {n : Str} {l : List Str} (a : Up tr n l) : ∀ x ∈ l, x ∈ tr.map (·.1) := by
 induction a with
 | root hi =>
  intro x hx
  rw [List.mem_singleton] at hx
  subst hx
  exact List.mem_map.mpr ⟨_, List.mem_of_getElem? hi, rfl⟩
 | step hi _ ih =>
  intro x hx
  rcases List.mem_cons.mp hx with rfl | hx
  ·exact List.mem_map.mpr ⟨_, List.mem_of_getElem? hi, rfl⟩
  ·exact ih x hx
theorem Up.len {tr : Tr} (h : TrOk tr) : ∀ (i : Nat) n g l, tr[i]? = some (n, g) -> Up tr n l -> l.length <= i + 1 := by
 intro i
 induction i using Nat.strongRecOn with
 | ind i ih =>
  intro n g l hi hl
  cases hl with
  | root _ => show 1 <= i + 1; omega
  | @step i' _ e l' hj hb =>
   have := h.one hi hj
   subst this
   obtain ⟨j, hlt, g', hg⟩ := h.up i n e hj
   have := ih j hlt e g' l' hg hb
   show l'.length + 1 <= i + 1
   omega
def eldV : Option Str -> V
 | none => .non
 | some e => .str e
end Gn
end
section
namespace Gn
open PySem L2
abbrev zr9 : Stmt := top 1
def KindsAt (H : Hp) (p : Addr) (tr : Tr) : Prop := ∃ (kt : Addr) (ts : List Addr) (x y : V), H p = some (.tup [.ref kt, x, y]) /\ H kt = some (.tup (ts.map V.ref)) /\ ts.length = tr.length /\
 ∀ (j : Nat) t z, ts[j]? = some t -> tr[j]? = some z -> ∃ v, H t = some (.tup [.str z.1, eldV z.2, v])
section
variable {P : Program} {w : World} {K : PySem.W.Frag} {mg : Str -> Option Value} {base : Heap} {f : Addr} {fd : FuncData}
theorem yf4 : zd3 ["program", "kind", "elder_of", "line"] ["program", "kind"] (zb7 zr9) := ⟨rfl, rfl, rfl, by decide +kernel, rfl, by decide +kernel, by decide +kernel⟩
theorem eT {X : Cx} {a b : Expr} {ta tb : TE} {pos : Pos} (ha : PE X a ta) (hb : PE X b tb) (hs : yp1 b := by exact fun _ _ => rfl) : PE X (.Subscript a b pos) (tOp (rIxT X.K) ta tb) := zw0 zs9 ha hb hs
def kvE (tr : Tr) : List (Key × V) := tr.map fun z => ((Sum.inr z.1 : Key), eldV z.2)
theorem xq1 {tr : Tr} {n : Str} (h : n ∉ tr.map (·.1)) : valV (kvE tr) (Sum.inr n) = none := by
 cases e : valV (kvE tr) (Sum.inr n) with
 | none => rfl
 | some v =>
  have := yf7 e
  unfold kvE at this
  rw [List.map_map] at this
  obtain ⟨z, hz, ez⟩ := List.mem_map.mp this
  exact absurd (List.mem_map.mpr ⟨z, hz, Sum.inr.inj ez⟩) h
theorem xh8 {tr : Tr} (ok : TrOk tr) {i : Nat} {n : Str} {e : Option Str} (h : tr[i]? = some (n, e)) : kvE (tr.take (i + 1)) = putK (kvE (tr.take i)) (Sum.inr n) (eldV e) := by
 have hn : n ∉ (tr.take i).map (·.1) := fun hm => by
  obtain ⟨z, hz, ez⟩ := List.mem_map.mp hm
  obtain ⟨j, hj, ej⟩ := List.getElem_of_mem hz
  rw [List.length_take] at hj
  have e1 : tr[j]? = some (n, z.2) := by
   rw [List.getElem?_eq_getElem (by omega), ← ez, ← ej, List.getElem_take]
  have := ok.one h e1
  omega
 rw [zv4 _ (xq1 hn)]
 unfold kvE
 rw [List.take_add_one, h, List.map_append]
 rfl
theorem zp0 {tr : Tr} (ok : TrOk tr) {i : Nat} {n : Str} {e : Option Str} (h : tr[i]? = some (n, e)) : valV (kvE tr) (Sum.inr n) = some (eldV e) := by
 obtain ⟨hi, _⟩ := List.getElem?_eq_some_iff.mp h
 have key : ∀ (tr : Tr) (i : Nat), TrOk tr -> tr[i]? = some (n, e) -> (kvE tr).find? (fun kv => decide (kv.1 = (Sum.inr n : Key))) = some ((Sum.inr n : Key), eldV e) := by
  intro tr i ok h
  cases q : (kvE tr).find? (fun kv => decide (kv.1 = (Sum.inr n : Key))) with
  | none =>
   have := List.find?_eq_none.mp q ((Sum.inr n : Key), eldV e) (List.mem_map.mpr ⟨(n, e), List.mem_of_getElem? h, rfl⟩)
   simp at this
  | some r =>
   have h1 := List.find?_some q
   have h2 := List.mem_of_find?_eq_some q
   obtain ⟨z, hz, ez⟩ := List.mem_map.mp h2
   obtain ⟨j, hj, ej⟩ := List.getElem_of_mem hz
   have h3 : r.1 = (Sum.inr n : Key) := of_decide_eq_true h1
   rw [← ez] at h3
   have h4 : z.1 = n := Sum.inr.inj h3
   have e1 : tr[j]? = some (n, z.2) := by rw [List.getElem?_eq_getElem hj, ej, ← h4]
   have := ok.one h e1
   subst this
   rw [h] at e1
   have e2 : z.2 = e := by cases e1; rfl
   rw [← ez, h4, e2]
 unfold valV
 rw [key tr i ok h]
 rfl
theorem yg8 {H H' : Hp} {p : Addr} (f : FrS [] H H') (hp : H' p = none) : H p = none := by
 cases hz : H p with
 | none => rfl
 | some o => have := f p o (by simp) hz; rw [hp] at this; cases this
theorem Up.at {tr : Tr} {n : Str} {l : List Str} (h : Up tr n l) : ∃ (i : Nat) (g : Option Str), tr[i]? = some (n, g) := by
 cases h with
 | root h => exact ⟨_, _, h⟩
 | step h _ => exact ⟨_, _, h⟩
theorem zs7 (dn : List Str) (x : Str) : atI ((dn ++ [x]).map V.str) (-1) = some (.str x) := by
 rw [List.map_append]
 unfold atI ixN
 have hlen : (dn.map V.str ++ [x].map V.str).length = dn.length + 1 := by simp
 rw [hlen, if_neg (by decide), if_pos (by omega)]
 have e : (-1 + ((dn.length + 1 : Nat) : Int)).toNat = dn.length := by omega
 show (dn.map V.str ++ [x].map V.str)[(-1 + ((dn.length + 1 : Nat) : Int)).toNat]? = _
 rw [e, List.getElem?_append_right (by simp)]
 simp
inductive yr6 (vs : List V) (H : Hp) (Q : VK) : Prop
 | mk (p : Addr) (n : Str) (tr : Tr) (l : List Str) (h1 : vs = [.ref p, .str n]) (h2 : KindsAt H p tr) (h3 : TrOk tr) (h4 : tr.length <= 12) (h5 : Up tr n l) (h6 : ∀ (a : Addr) (H' : Hp), FrS [] H H' -> H a = none -> H' a = some (.tup (l.reverse.map V.str)) -> Q (.ref a) H') : yr6  vs H Q
def yd9 : Sp := fun vs H Q _ => yr6  vs H Q
theorem xc4 {k : Nat} (F : Fun K "elders" "elders" zr9 f fd) (mt : mg "tuple" = none) : FnOk P w K mg base CX0 (k + 1) f fd ["program", "kind"] yd9 := by
 refine F.ok yf4 (fun vs H Q E h => ?_) (fun cdv A outer s H vs Q E hr h => ?_)
 ·obtain ⟨p, n, tr, l, rfl, _⟩ := h
  rfl
 obtain ⟨p, n, tr, l, rfl, ⟨kt, ts, x, y, hp, hk, hlen, hts⟩, ok, h12, hup, q⟩ := h
 have hu := zm7 hr
 have hl12 : l.length <= 12 := by
  obtain ⟨i, g, hi⟩ := hup.at
  have := Up.len ok i n g l hi hup
  obtain ⟨h1, _⟩ := List.getElem?_eq_some_iff.mp hi
  omega
 have nd3 : (["name", "elder", "deeds"] : List Str).Nodup := by decide +kernel
 refine ⟨_, zb3 (yp3 (i := 2) (N' := ["name", "elder", "deeds"]) (src := [none, none, none]) rfl yf4.nd rfl rfl ⟨rfl, by decide +kernel, by decide +kernel, rfl, rfl, rfl⟩
   (zj9 (eT (pv 0) zb6))
   (g := gTup K 3 (zk1 (zf8 0) (zk1 (zf8 1) (zk1 (zf8 2) gNil)))) (fun _ _ _ _ => zh4 (n := 3) rfl (zc1 (zc0 (i := 0) nd3 rfl (Or.inl rfl) (Or.inr rfl)) (zc1 (zc0 (i := 1) nd3 rfl (Or.inl rfl) (Or.inr rfl)) (zc1 (zc0 (i := 2) nd3 rfl (Or.inl rfl) (Or.inr rfl)) zg4))))
   (fun _ _ _ _ => zh3) (fun _ _ _ _ => pv 0) (fun _ _ _ _ => pv 1))
  (zb3 (zc3 (i := 3) yf4.nd rfl (Or.inl rfl) (zd7 (zb0 (pv 1) zb2)))
  (zb3 (yg4 PassesOwn.never (zt7 (zz5 (zc9 hu (pv 2) (eI (pv 3) (yf3 zq5 zb6)) (fun _ _ => rfl))))
   (zb9 (zg2 (zk6 PySem.F.plainAttrs_list PySem.F.slot_list_append PySem.F.type_list_append zf0 (pv 3) (zb0 (zc9 hu (pv 2) (eI (pv 3) (yf3 zq5 zb6)) (fun _ _ => rfl)) zb2)))))
  (zb9 (zd4 (zd1 zc8 rfl mt (by decide +kernel) (zb0 (xr2 (pv 3) (yf3 zq5 zb6)) zb2)))))), ?_⟩
 first | dsimp only [cxOf, Cx.nox] | skip
 have s1 : ∀ {n : Nat}, n <= 1000 -> n < sizeLine := fun h => zc2 h
 refine ⟨_, rfl, p, _, _, _, rfl, rfl, SqT.of hp, rfl, kt, rfl, ⟨_, SqT.of hk⟩, fun D hD => ?_⟩
 have hDp : p ≠ D := zb4 hp hD
 have hDk : kt ≠ D := zb4 hk hD
 refine ⟨fun i m σ Hx => m = ts.length - i /\ i <= ts.length /\ (∃ a b c, σ = [a, b, c]) /\ Hx = upd H D (.dK (kvE (tr.take i))), ⟨_, rfl, Nat.zero_le _, ⟨_, _, _, rfl⟩, rfl⟩, ?_⟩
 rintro i m σ Hx ⟨rfl, hi, ⟨a0, b0, c0, rfl⟩, rfl⟩
 have hkD : ∀ o, upd H D o kt = some (.tup (ts.map V.ref)) := fun o => by rw [zb5 hDk]; exact hk
 by_cases hlt : i < ts.length
 ·refine .inr ⟨⟨_, _, SqT.of (hkD _), by rw [List.getElem?_map, List.getElem?_eq_getElem hlt]; rfl⟩, fun σ' H' => (∃ a b c, σ' = [a, b, c]) /\ H' = upd H D (.dK (kvE (tr.take (i + 1)))), fun σ' H' ⟨h1, h2⟩ => ⟨_, by omega, rfl, hlt, h1, h2⟩, fun v H' yl => ?_⟩
  obtain ⟨rfl, yl⟩ := yl
  have hv := yl _ (SqT.of (hkD _))
  rw [List.getElem?_map, List.getElem?_eq_getElem hlt] at hv
  cases hv
  have htr : tr[i]? = some tr[i] := List.getElem?_eq_getElem (by omega)
  obtain ⟨v3, hv3⟩ := hts i _ _ (List.getElem?_eq_getElem hlt) htr
  have hv4 : ∀ o, upd H D o ts[i] = some (.tup [.str tr[i].1, eldV tr[i].2, v3]) := fun o => by rw [zb5 (zb4 hv3 hD)]; exact hv3
  refine ⟨ts[i], _, rfl, SqT.of (hv4 _), rfl, _, _, rfl, _, _, rfl, _, _, rfl, rfl, ?_⟩
  refine ⟨_, rfl, _, rfl, _, Sum.inr tr[i].1, rfl, zb1, ?_, ⟨_, _, _, rfl⟩, ?_⟩
  ·unfold kvE
   rw [lqm, List.length_take]
   exact s1 (by omega)
  ·rw [zs3, xh8 ok htr]
   rfl
 ·refine .inl ⟨⟨_, SqT.of (hkD _), by rw [lqm]; omega⟩, ?_⟩
  have e : i = tr.length := by omega
  rw [e, List.take_of_length_le (Nat.le_refl _)]
  refine ⟨_, rfl, by show 1 <= sizeLine; decide, fun pl hpl => ?_⟩
  have hDl : D ≠ pl := fun z => by rw [← z, zb1] at hpl; cases hpl
  have hlp : H pl = none := by rw [zb5 (Ne.symm hDl)] at hpl; exact hpl
  refine yd0 (fun σ Hx => ∃ (dn rs : List Str) (x : Str), σ = [some (.ref p), some (.str n), some (.ref D), some (.ref pl)] /\ Hx = upd (upd H D (.dK (kvE tr))) pl (.lst ((dn ++ [x]).map V.str)) /\ Up tr x rs /\ dn ++ rs = l /\ dn.length <= 12)
   (fun σ Hx => match Hx pl with | some (.lst xs) => 100 - xs.length | _ => 0) ⟨[], l, n, rfl, rfl, hup, rfl, by decide⟩ ?_ ?_
  ·rintro σ Hx ⟨dn, rs, x, rfl, rfl, hx, hl, hd⟩
   have hdl : ∀ o, upd (upd H D (.dK (kvE tr))) pl o D = some (.dK (kvE tr)) := fun o => by rw [zb5 hDl]; exact zb1
   have hll : ∀ o, upd (upd H D (.dK (kvE tr))) pl o pl = some o := fun o => zb1
   have hlen : ∀ y : Str, ((dn ++ [y]).map V.str).length = dn.length + 1 := fun y => by simp
   cases hx with
   | @root i _ hi =>
    refine ⟨_, rfl, _, rfl, _, rfl, pl, _, _, _, rfl, rfl, SqL.of zb1, zs7 dn x, D, V.non, rfl, ?_, _, rfl, ?_⟩
    ·have := DGet.k (k := (Sum.inr x : Key)) (hdl (.lst ((dn ++ [x]).map V.str)))
     rw [zp0 ok hi] at this
     exact this
    ·show if (!decide (V.non = V.non)) = true then _ else _
     rw [if_neg (by simp)]
     refine ⟨_, rfl, _, rfl, rfl, pl, _, rfl, SqL.of zb1, fun p2 hp2 => ?_⟩
     have hfr : FrS [] H (upd (upd H D (.dK (kvE tr))) pl (.lst ((dn ++ [x]).map V.str))) := (FrS.new hD).trans (FrS.new hpl)
     refine ⟨p2, _, rfl, .inl ⟨SqL.of zb1, fun p3 hp3 => ?_⟩⟩
     refine q p3 _ ((hfr.trans (FrS.new hp2)).trans (FrS.new hp3)) ?_ ?_
     ·exact yg8 (hfr.trans (FrS.new hp2)) hp3
     ·rw [zb1, ← hl, List.map_reverse]
   | @step i _ e l' hi hb =>
    refine ⟨_, rfl, _, rfl, _, rfl, pl, _, _, _, rfl, rfl, SqL.of zb1, zs7 dn x, D, V.str e, rfl, ?_, _, rfl, ?_⟩
    ·have := DGet.k (k := (Sum.inr x : Key)) (hdl (.lst ((dn ++ [x]).map V.str)))
     rw [zp0 ok hi] at this
     exact this
    ·show if (!decide (V.str e = V.non)) = true then _ else _
     rw [if_pos (by simp)]
     refine ⟨_, rfl, .inl ⟨rfl, _, SqL.of zb1⟩, _, rfl, _, rfl, _, rfl, pl, _, _, _, rfl, rfl, SqL.of zb1, zs7 dn x, D, V.str e, rfl, ?_, pl, _, _, rfl, rfl, zb1, ?_, ⟨dn ++ [x], l', e, rfl, ?_, hb, by rw [← hl]; simp, ?_⟩, ?_⟩
     ·have := DGet.k (k := (Sum.inr x : Key)) (hdl (.lst ((dn ++ [x]).map V.str)))
      rw [zp0 ok hi] at this
      exact this
     ·rw [hlen]; exact s1 (by omega)
     ·rw [zs3, List.map_append (l₁ := dn ++ [x])]
      rfl
     ·have := congrArg List.length hl
      rw [List.length_append, List.length_cons] at this
      rw [List.length_append, List.length_singleton]
      omega
     ·show (match upd _ pl _ pl with | some (HO.lst xs) => 100 - xs.length | _ => 0) < (match upd _ pl _ pl with | some (HO.lst xs) => 100 - xs.length | _ => 0)
      rw [zb1, zb1]
      show 100 - (((dn ++ [x]).map V.str) ++ [V.str e]).length < 100 - ((dn ++ [x]).map V.str).length
      rw [List.length_append, hlen, List.length_singleton]
      omega
  ·intro σ Hx R R' hR hc
   obtain ⟨v1, h1, v2, h2, v3, h3, p', xs, i', v', h4, h5, h6, h7, a', v8, h8, h9, c, h10, h11⟩ := hc
   exact ⟨v1, h1, v2, h2, v3, h3, p', xs, i', v', h4, h5, h6, h7, a', v8, h8, h9, c, h10, hR _ _ h11⟩
end
end Gn
end
section
namespace Gn
open PySem L2
abbrev yc0 : Stmt := top 2
theorem zn0 (n : Str) (l : List Str) : inV (.str n) (l.map V.str) = decide (n ∈ l) := by
 unfold inV
 induction l with
 | nil => rfl
 | cons x r ih =>
  rw [List.map_cons, List.any_cons, ih]
  have e : eqV (.str x) (.str n) = decide (x = n) := by
   first | rfl | simp [eqV] | (unfold eqV; by_cases h : x = n <;> simp [h])
  rw [e]
  by_cases h : x = n
  ·subst h; simp
  ·have h' : ¬ n = x := fun z => h z.symm
   simp [h, h']
theorem zg7 (l : List Str) : (l.map V.str).all zw1 = true := by
 rw [List.all_map, List.all_eq_true]
 intro x _
 rfl
inductive xb1 (vs : List V) (H : Hp) (Q : VK) : Prop
 | mk (p : Addr) (n o : Str) (tr : Tr) (l : List Str) (h1 : vs = [.ref p, .str n, .str o]) (h2 : KindsAt H p tr) (h3 : TrOk tr) (h4 : tr.length <= 12) (h5 : Up tr n l) (h6 : ∀ (H' : Hp), FrS [] H H' -> Q (.bl (decide (o ∈ l))) H') : xb1  vs H Q
def yf1 : Sp := fun vs H Q _ => xb1  vs H Q
section
variable {P : Program} {w : World} {K : PySem.W.Frag} {mg : Str -> Option Value} {base : Heap} {f : Addr} {fd : FuncData}
theorem xv8 : zd3 ["program", "one", "other"] ["program", "one", "other"] (zb7 yc0) := ⟨rfl, rfl, rfl, by decide +kernel, rfl, by decide +kernel, by decide +kernel⟩
theorem xq5 {k : Nat} (F : Fun K "is_below" "is_below" yc0 f fd) (T : Cal P w K mg base k "elders" ["program", "kind"] yd9) : FnOk P w K mg base CX0 (k + 1) f fd ["program", "one", "other"] yf1 := by
 obtain ⟨g, gd, GT, bT, kT, mT⟩ := T.ex
 refine F.ok xv8 (fun vs H Q E h => ?_) (fun cdv A outer s H vs Q E hr h => ?_)
 ·obtain ⟨p, n, o, tr, l, rfl, _⟩ := h
  rfl
 obtain ⟨p, n, o, tr, l, rfl, hK, ok, h12, hup, q⟩ := h
 refine ⟨_, zb9 (zd4 (zn2 zg9 (pv 2) (zb8 GT hr rfl mT kT bT .nil zc6 (zb0 (pv 0) (zb0 (pv 1) zb2))) rfl)), ?_⟩
 refine ⟨_, rfl, _, rfl, _, rfl, p, n, tr, l, rfl, hK, ok, h12, hup, fun a H' fr ha hH' => ?_⟩
 refine ⟨a, _, rfl, .inr (SqT.of hH'), rfl, zg7 _, ?_⟩
 have e : inV (.str o) (l.reverse.map V.str) = decide (o ∈ l) := by
  rw [zn0]
  by_cases h : o ∈ l
  ·rw [decide_eq_true h, decide_eq_true (List.mem_reverse.mpr h)]
  ·rw [decide_eq_false h, decide_eq_false (fun z => h (List.mem_reverse.mp z))]
 show Q (.bl (if false = true then _ else _)) H'
 rw [if_neg (by decide), e]
 exact q H' fr
end
end Gn
end
section
namespace Gn
open PySem L2
theorem FrS.put {S : List Addr} {H H' : Hp} {a : Addr} {o : HO} (f : FrS S H H') (h : H a = none) : FrS S H (upd H' a o) := fun b u n q => by
 rw [zb5 (zb4 q h)]; exact f b u n q
theorem FrS.put' {S : List Addr} {H H' : Hp} {a : Addr} {o : HO} (f : FrS S H H') (h : a ∈ S) : FrS S H (upd H' a o) := f.trans (FrS.chg h)
theorem FrS.old {S : List Addr} {H H' : Hp} {p : Addr} (f : FrS S H H') (hs : ∀ b ∈ S, ∃ o, H' b = some o) (hp : H' p = none) : H p = none := by
 cases hz : H p with
 | none => rfl
 | some o =>
  by_cases hm : p ∈ S
  ·obtain ⟨u, hu⟩ := hs p hm; rw [hp] at hu; cases hu
  ·have := f p o hm hz; rw [hp] at this; cases this
theorem zj7 {K : PySem.W.Frag} {a : Addr} {xs : List V} {g : TG} {tt : TT} {te : TE} {D : Addr} {σ0 : St} {H0 : Hp} {Q : Hp -> Prop} (Pv : Nat -> St -> Hp -> Prop) (h0 : Pv 0 σ0 H0) (hl : ∀ i σ H, i <= xs.length -> Pv i σ H -> SqL K H a xs)
  (hs : ∀ i x σ H, xs[i]? = some x -> Pv i σ H -> g x σ H fun σ2 H2 => tt σ2 H2 fun b H3 => if b = true then te σ2 H3 fun v H4 => ∃ ys, H4 D = some (.lst ys) /\ ys.length < sizeLine /\ Pv (i + 1) σ2 (upd H4 D (.lst (ys ++ [v]))) else Pv (i + 1) σ2 H3)
  (hd : ∀ σ H, Pv xs.length σ H -> Q H) : zz8 (Itl K a) g tt te D σ0 H0 Q := by
 refine ⟨fun i m σ H => m = xs.length - i /\ i <= xs.length /\ Pv i σ H, ⟨xs.length, by simp, Nat.zero_le _, h0⟩, ?_⟩
 rintro i m σ H ⟨rfl, hi, p⟩
 have q := hl i σ H hi p
 by_cases hlt : i < xs.length
 ·refine .inr ⟨⟨xs, xs[i], q, by simp [hlt]⟩, Pv (i + 1), fun σ' H' p' => ⟨xs.length - (i + 1), by omega, rfl, hlt, p'⟩, fun x H' y => ?_⟩
  obtain ⟨e, y⟩ := y
  subst e
  exact hs i x σ _ (y xs q) p
 ·have e : i = xs.length := by omega
  subst e
  exact .inl ⟨⟨xs, q, Nat.le_refl _⟩, hd σ H p⟩
theorem yg6 {ok : Hp -> Prop} {xs : List V} {g : TG} {tt : TT} {te : TE} {D : Addr} {σ0 : St} {H0 : Hp} {Q : Hp -> Prop} (Pv : Nat -> St -> Hp -> Prop) (h0 : Pv 0 σ0 H0) (hl : ∀ i σ H, i <= xs.length -> Pv i σ H -> ok H)
  (hs : ∀ i x σ H, xs[i]? = some x -> Pv i σ H -> g x σ H fun σ2 H2 => tt σ2 H2 fun b H3 => if b = true then te σ2 H3 fun v H4 => ∃ ys, H4 D = some (.lst ys) /\ ys.length < sizeLine /\ Pv (i + 1) σ2 (upd H4 D (.lst (ys ++ [v]))) else Pv (i + 1) σ2 H3)
  (hd : ∀ σ H, Pv xs.length σ H -> Q H) : zz8 (Itx ok xs) g tt te D σ0 H0 Q := by
 refine ⟨fun i m σ H => m = xs.length - i /\ i <= xs.length /\ Pv i σ H, ⟨xs.length, by simp, Nat.zero_le _, h0⟩, ?_⟩
 rintro i m σ H ⟨rfl, hi, p⟩
 have q := hl i σ H hi p
 by_cases hlt : i < xs.length
 ·refine .inr ⟨⟨q, hlt⟩, Pv (i + 1), fun σ' H' p' => ⟨xs.length - (i + 1), by omega, rfl, hlt, p'⟩, fun x H' y => ?_⟩
  obtain ⟨e, y⟩ := y
  subst e
  exact hs i x σ _ y p
 ·have e : i = xs.length := by omega
  subst e
  exact .inl ⟨⟨q, Nat.le_refl _⟩, hd σ H p⟩
theorem zw9 {lo : Int} {n : Nat} {g : TG} {tt : TT} {te : TE} {D : Addr} {σ0 : St} {H0 : Hp} {Q : Hp -> Prop} (Pv : Nat -> St -> Hp -> Prop) (h0 : Pv 0 σ0 H0)
  (hs : ∀ i σ H, i < n -> Pv i σ H -> g (.int (lo + i)) σ H fun σ2 H2 => tt σ2 H2 fun b H3 => if b = true then te σ2 H3 fun v H4 => ∃ ys, H4 D = some (.lst ys) /\ ys.length < sizeLine /\ Pv (i + 1) σ2 (upd H4 D (.lst (ys ++ [v]))) else Pv (i + 1) σ2 H3)
  (hd : ∀ σ H, Pv n σ H -> Q H) : zz8 (Itr lo n) g tt te D σ0 H0 Q := by
 refine ⟨fun i m σ H => m = n - i /\ i <= n /\ Pv i σ H, ⟨n, by simp, Nat.zero_le _, h0⟩, ?_⟩
 rintro i m σ H ⟨rfl, hi, p⟩
 by_cases hlt : i < n
 ·refine .inr ⟨hlt, Pv (i + 1), fun σ' H' p' => ⟨n - (i + 1), by omega, rfl, hlt, p'⟩, fun x H' y => ?_⟩
  obtain ⟨e, y⟩ := y
  subst e y
  exact hs i σ _ hlt p
 ·have e : i = n := by omega
  subst e
  exact .inl ⟨Nat.le_refl _, hd σ H p⟩
theorem for_x {ok : Hp -> Prop} {xs : List V} {g : TG} {tb : TS} {D : Ends} {σ : St} {H : Hp} (Pv : Nat -> St -> Hp -> Prop) (h0 : Pv 0 σ H) (hl : ∀ i σ H, i <= xs.length -> Pv i σ H -> ok H)
  (hs : ∀ i x σ H, xs[i]? = some x -> Pv i σ H -> g x σ H fun σ2 H2 => tb { D with nx := Pv (i + 1), ct := Pv (i + 1), bk := D.nx } σ2 H2) (hd : ∀ σ H, Pv xs.length σ H -> D.nx σ H) :
  ∃ W : Nat -> Nat -> St -> Hp -> Prop, (∃ m, W 0 m σ H) /\ ∀ i m σ H, W i m σ H ->
   ((Itx ok xs).stop i H /\ D.nx σ H) ∨ ((Itx ok xs).go i H /\ ∃ N : St -> Hp -> Prop, (∀ σ' H', N σ' H' -> ∃ m', m' < m /\ W (i + 1) m' σ' H') /\ ∀ x H', (Itx ok xs).yld i H x H' -> g x σ H' fun σ2 H2 => tb { D with nx := N, ct := N, bk := D.nx } σ2 H2) := by
 refine ⟨fun i m σ H => m = xs.length - i /\ i <= xs.length /\ Pv i σ H, ⟨xs.length, by simp, Nat.zero_le _, h0⟩, ?_⟩
 rintro i m σ H ⟨rfl, hi, p⟩
 have q := hl i σ H hi p
 by_cases hlt : i < xs.length
 ·refine .inr ⟨⟨q, hlt⟩, Pv (i + 1), fun σ' H' p' => ⟨xs.length - (i + 1), by omega, rfl, hlt, p'⟩, fun x H' y => ?_⟩
  obtain ⟨e, y⟩ := y
  subst e
  exact hs i x σ _ y p
 ·have e : i = xs.length := by omega
  subst e
  exact .inl ⟨⟨q, Nat.le_refl _⟩, hd σ H p⟩
end Gn
end
section
namespace Gn
open PySem L2
theorem xv1 {α : Type} [DecidableEq α] : ∀ (l U : List α), l.Nodup -> (∀ x ∈ l, x ∈ U) -> l.length <= U.length
 | [], U, _, _ => Nat.zero_le _
 | x :: l, U, h, hs => by
  have hx : x ∈ U := hs x (List.mem_cons_self ..)
  have hn := List.nodup_cons.mp h
  have ih := xv1 l (U.erase x) hn.2 fun y hy => (List.mem_erase_of_ne (fun e => hn.1 (by rw [← e]; exact hy))).mpr (hs y (List.mem_cons_of_mem _ hy))
  rw [List.length_erase_of_mem hx] at ih
  have := List.length_pos_of_mem hx
  show l.length + 1 <= U.length
  omega
theorem zw6 {κ : Type} [DecidableEq κ] (kvs : List (κ × V)) (k : κ) (v : V) : ((putK kvs k v).map (·.1) = kvs.map (·.1) /\ k ∈ kvs.map (·.1)) ∨ ((putK kvs k v).map (·.1) = kvs.map (·.1) ++ [k] /\ k ∉ kvs.map (·.1)) := by
 cases h : valV kvs k with
 | none => exact .inr ⟨by rw [zv4 v h, List.map_append]; rfl, zv5 h⟩
 | some u =>
  refine .inl ⟨?_, yf7 h⟩
  unfold putK
  rw [zk7, h]
  show (List.map _ (List.map _ kvs)) = _
  rw [List.map_map]
  refine List.map_congr_left fun x _ => ?_
  show (if x.1 = k then (x.1, v) else x).1 = x.1
  split <;> rfl
structure DOk (U N : List Str) (kvs : List (Key × V)) : Prop where
 nd : (kvs.map (·.1)).Nodup
 ks : ∀ k ∈ kvs.map (·.1), ∃ x ∈ U, k = Sum.inr x
 vs : ∀ k v, valV kvs k = some v -> v = .non ∨ ∃ n ∈ N, v = .str n
theorem DOk.nil {U N : List Str} : DOk U N [] := ⟨List.nodup_nil, (fun _ h => nomatch h), (fun _ _ h => nomatch h)⟩
theorem DOk.put {U N : List Str} {kvs : List (Key × V)} {x : Str} {v : V} (h : DOk U N kvs) (hx : x ∈ U) (hv : v = .non ∨ ∃ n ∈ N, v = .str n) : DOk U N (putK kvs (Sum.inr x) v) := by
 refine ⟨?_, fun k hk => ?_, fun k u hu => ?_⟩
 ·rcases zw6 kvs (Sum.inr x) v with ⟨e, _⟩ | ⟨e, hn⟩
  ·rw [e]; exact h.nd
  ·rw [e]; exact yn8 h.nd hn
 ·rcases zw6 kvs (Sum.inr x) v with ⟨e, _⟩ | ⟨e, hn⟩
  ·rw [e] at hk; exact h.ks k hk
  ·rw [e] at hk
   rcases List.mem_append.mp hk with hk | hk
   ·exact h.ks k hk
   ·exact ⟨x, hx, List.mem_singleton.mp hk⟩
 ·rw [zp6] at hu
  by_cases e : k = Sum.inr x
  ·rw [if_pos e] at hu; cases hu; exact hv
  ·rw [if_neg e] at hu; exact h.vs k u hu
theorem DOk.len {U N : List Str} {kvs : List (Key × V)} (h : DOk U N kvs) : kvs.length <= U.length := by
 have := xv1 (kvs.map (·.1)) (U.map fun x => (Sum.inr x : Key)) h.nd fun k hk => by
  obtain ⟨x, hx, e⟩ := h.ks k hk
  exact List.mem_map.mpr ⟨x, hx, e.symm⟩
 rwa [lqm, lqm] at this
theorem DOk.get {U N : List Str} {kvs : List (Key × V)} (h : DOk U N kvs) (k : Key) : (valV kvs k).getD .non = .non ∨ ∃ n ∈ N, (valV kvs k).getD .non = .str n := by
 cases e : valV kvs k with
 | none => exact .inl rfl
 | some v => exact h.vs k v e
structure WA where
 (tree late deeds wants owners vars params fields told held roots : Addr)
structure WD where
 tr : Tr
 (late deeds vars params fields : List Str)
 wants : List (List Key × V)
 (owners roots : List (Key × V))
def WD.names (D : WD) : List Str := D.tr.map (·.1)
def WD.U (D : WD) : List Str := "own" :: (D.vars ++ D.params)
def Stt (M : List Addr) (H : Hp) (a : Addr) (o : HO) : Prop := a ∉ M /\ H a = some o
theorem Stt.keep {M : List Addr} {H H' : Hp} {a : Addr} {o : HO} (h : Stt M H a o) (f : FrS M H H') : Stt M H' a o := ⟨h.1, f a o h.1 h.2⟩
theorem Stt.sub {M M' : List Addr} {H : Hp} {a : Addr} {o : HO} (h : Stt M H a o) (hs : ∀ b ∈ M', b ∈ M) : Stt M' H a o := ⟨fun z => h.1 (hs a z), h.2⟩
structure WOk (D : WD) : Prop where
 ok : TrOk D.tr
 l1 : D.tr ≠ []
 l12 : D.tr.length <= 12
 lateIn : ∀ x ∈ D.late, x ∈ D.names
 lateLen : D.late.length <= 12
 soon : ∃ x ∈ D.names, x ∉ D.late
 d1 : D.deeds ≠ []
 d6 : D.deeds.length <= 6
 v4 : D.vars.length = 4
 p4 : D.params.length = 4
 f3 : D.fields.length = 3
structure Wld (M : List Addr) (H : Hp) (wd : Addr) (A : WA) (D : WD) : Prop where
 k : ∃ kvs, Stt M H wd (.dK kvs) /\ valV kvs (Sum.inr "tree") = some (.ref A.tree) /\ valV kvs (Sum.inr "late") = some (.ref A.late) /\ valV kvs (Sum.inr "deeds") = some (.ref A.deeds) /\ valV kvs (Sum.inr "wants") = some (.ref A.wants) /\
  valV kvs (Sum.inr "owners") = some (.ref A.owners) /\ valV kvs (Sum.inr "vars") = some (.ref A.vars) /\ valV kvs (Sum.inr "params") = some (.ref A.params) /\ valV kvs (Sum.inr "fields") = some (.ref A.fields) /\
  valV kvs (Sum.inr "told") = some (.ref A.told) /\ valV kvs (Sum.inr "held") = some (.ref A.held) /\ valV kvs (Sum.inr "roots") = some (.ref A.roots)
 tree : ∃ ts : List Addr, Stt M H A.tree (.lst (ts.map V.ref)) /\ ts.length = D.tr.length /\ ∀ (j : Nat) t x, ts[j]? = some t -> D.tr[j]? = some x -> Stt M H t (.tup [.str x.1, eldV x.2])
 late : Stt M H A.late (.lst (D.late.map V.str))
 deeds : Stt M H A.deeds (.lst (D.deeds.map V.str))
 vars : Stt M H A.vars (.lst (D.vars.map V.str))
 params : Stt M H A.params (.lst (D.params.map V.str))
 fields : Stt M H A.fields (.lst (D.fields.map V.str))
 wants : Stt M H A.wants (.dT D.wants)
 owners : Stt M H A.owners (.dK D.owners)
 roots : Stt M H A.roots (.dK D.roots)
 wl : ∀ n ∈ D.names, ∀ d ∈ D.deeds, ∃ (r : Str) (p : Addr) (ws : List Str), valV D.roots (Sum.inr n) = some (.str r) /\ valV D.wants [Sum.inr r, Sum.inr d] = some (.ref p) /\ Stt M H p (.lst (ws.map V.str)) /\ ws.length <= 4 /\ ∀ x ∈ ws, x ∈ D.names
 ol : ∀ d ∈ D.deeds, ∃ (p : Addr) (os : List Str), valV D.owners (Sum.inr d) = some (.ref p) /\ Stt M H p (.lst (os.map V.str)) /\ (∀ x ∈ os, x ∈ D.names) /\ os.length <= 13
theorem Wld.map {M M' : List Addr} {H H' : Hp} {wd : Addr} {A : WA} {D : WD} (h : Wld M H wd A D) (f : ∀ a o, Stt M H a o -> Stt M' H' a o) : Wld M' H' wd A D := by
 obtain ⟨⟨kvs, k0, k1⟩, ⟨ts, t1, t2, t3⟩, h1, h2, h3, h4, h5, h6, h7, h8, h9, h10⟩ := h
 refine ⟨⟨kvs, f _ _ k0, k1⟩, ⟨ts, f _ _ t1, t2, fun j t x a b => f _ _ (t3 j t x a b)⟩, f _ _ h1, f _ _ h2, f _ _ h3, f _ _ h4, f _ _ h5, f _ _ h6, f _ _ h7, f _ _ h8, fun n hn d hd => ?_, fun d hd => ?_⟩
 ·obtain ⟨r, p, ws, a, b, c, e⟩ := h9 n hn d hd
  exact ⟨r, p, ws, a, b, f _ _ c, e⟩
 ·obtain ⟨p, os, a, b, c⟩ := h10 d hd
  exact ⟨p, os, a, f _ _ b, c⟩
theorem Wld.keep {M : List Addr} {H H' : Hp} {wd : Addr} {A : WA} {D : WD} (h : Wld M H wd A D) (f : FrS M H H') : Wld M H' wd A D := h.map fun _ _ x => x.keep f
theorem Wld.g {M : List Addr} {H : Hp} {wd : Addr} {A : WA} {D : WD} (h : Wld M H wd A D) : DGet H wd (.str "tree") (some (.ref A.tree)) /\ DGet H wd (.str "late") (some (.ref A.late)) /\ DGet H wd (.str "deeds") (some (.ref A.deeds)) /\ DGet H wd (.str "wants") (some (.ref A.wants)) /\
  DGet H wd (.str "owners") (some (.ref A.owners)) /\ DGet H wd (.str "vars") (some (.ref A.vars)) /\ DGet H wd (.str "params") (some (.ref A.params)) /\ DGet H wd (.str "fields") (some (.ref A.fields)) /\ DGet H wd (.str "told") (some (.ref A.told)) /\ DGet H wd (.str "held") (some (.ref A.held)) /\ DGet H wd (.str "roots") (some (.ref A.roots)) := by
 obtain ⟨kvs, ⟨_, e⟩, k1, k2, k3, k4, k5, k6, k7, k8, k9, k10, k11⟩ := h.k
 have g : ∀ (x : Str) (v : V), valV kvs (Sum.inr x) = some v -> DGet H wd (.str x) (some v) := fun x v q => .inl ⟨kvs, Sum.inr x, .inl e, rfl, q.symm⟩
 exact ⟨g _ _ k1, g _ _ k2, g _ _ k3, g _ _ k4, g _ _ k5, g _ _ k6, g _ _ k7, g _ _ k8, g _ _ k9, g _ _ k10, g _ _ k11⟩
abbrev yv8 : Stmt := top 23
abbrev sHas : Stmt := top 24
theorem yk2 {tr : Tr} (ok : TrOk tr) : zg3 [] (kvE tr) = kvE tr := by
 have key : ∀ i, i <= tr.length -> zg3 [] ((kvE tr).take i) = kvE (tr.take i) := by
  intro i
  induction i with
  | zero => intro _; rfl
  | succ i ih =>
   intro hi
   have hv : tr[i]? = some tr[i] := List.getElem?_eq_getElem (by omega)
   have hk : (kvE tr)[i]? = some (Sum.inr tr[i].1, eldV tr[i].2) := by unfold kvE; rw [List.getElem?_map, hv]; rfl
   rw [yh7 hk, ih (by omega), xh8 ok (e := tr[i].2) (n := tr[i].1) hv]
 have hl : (kvE tr).length = tr.length := by unfold kvE; rw [lqm]
 have := key tr.length (Nat.le_refl _)
 rwa [List.take_of_length_le (by omega), List.take_of_length_le (Nat.le_refl _)] at this
inductive xt0 (vs : List V) (H : Hp) (Q : VK) : Prop
 | mk (wd : Addr) (M : List Addr) (A : WA) (D : WD) (n : Str) (l : List Str) (h1 : vs = [.ref wd, .str n]) (h2 : Wld M H wd A D) (h3 : WOk D) (h4 : Up D.tr n l) (h5 : ∀ (a : Addr) (H' : Hp), FrS [] H H' -> H a = none -> H' a = some (.lst (l.map V.str)) -> Q (.ref a) H') : xt0  vs H Q
def yg7 : Sp := fun vs H Q _ => xt0  vs H Q
section
variable {P : Program} {w : World} {K : PySem.W.Frag} {mg : Str -> Option Value} {base : Heap} {f : Addr} {fd : FuncData}
theorem yq2 : zd3 ["_law_world_here", "_law_kind", "_law_up_here", "_law_line_here"] ["_law_world_here", "_law_kind"] (zb7 yv8) := ⟨rfl, rfl, rfl, by decide +kernel, rfl, by decide +kernel, by decide +kernel⟩
theorem xw4 {k : Nat} (F : Fun K "_law_line" "_law_line" yv8 f fd) (mdi : mg "dict" = none) : FnOk P w K mg base CX0 (k + 1) f fd ["_law_world_here", "_law_kind"] yg7 := by
 refine F.ok yq2 (fun vs H Q E h => ?_) (fun cdv A outer s H vs Q E hr h => ?_)
 ·obtain ⟨wd, M, A, D, n, l, rfl, _⟩ := h
  rfl
 obtain ⟨wd, M, WA, D, n, l, rfl, hW, hO, hup, q⟩ := h
 have hu := zm7 hr
 refine ⟨_, zb3 (zc3 (i := 2) yq2.nd rfl (Or.inl rfl) (zd1 (zj3 rfl) rfl mdi (by decide +kernel) (zb0 (zc9 hu (pv 0) zd5 (fun _ _ => rfl)) zb2)))
  (zb3 (zc3 (i := 3) yq2.nd rfl (Or.inl rfl) (zd7 zb2))
  (zb3 (yg4 PassesOwn.never (zt7 (zz5 (pv 1)))
   (zb3 (zg2 (zk6 PySem.F.plainAttrs_list PySem.F.slot_list_append PySem.F.type_list_append zf0 (pv 3) (zb0 (pv 1) zb2)))
   (zb9 (zc3 (i := 1) yq2.nd rfl (Or.inl rfl) (zc9 hu (pv 2) (pv 1) (fun _ _ => rfl))))))
  (zb9 (zd4 (pv 3))))), ?_⟩
 first | dsimp only [cxOf, Cx.nox] | skip
 have s1 : ∀ {n : Nat}, n <= 1000 -> n < sizeLine := fun h => zc2 h
 obtain ⟨ts, t1, t2, t3⟩ := hW.tree
 have hkl : (kvE D.tr).length = D.tr.length := by unfold kvE; rw [lqm]
 have h12 := hO.l12
 refine ⟨_, rfl, wd, _, rfl, hW.g.1, WA.tree, ts, kvE D.tr, rfl, SqL.of t1.2, by rw [hkl]; exact t2, by rw [hkl]; exact s1 (by omega), fun j t kv ht hkv => ?_, fun Dp hDp => ?_⟩
 ·unfold kvE at hkv
  rw [List.getElem?_map] at hkv
  obtain ⟨x, hx, rfl⟩ := Option.map_eq_some_iff.mp hkv
  exact SqT.of (t3 j t x ht hx).2
 rw [yk2 hO.ok]
 refine ⟨Nat.zero_le _, fun pl hpl => ?_⟩
 have hDl : Dp ≠ pl := fun z => by rw [← z, zb1] at hpl; cases hpl
 have hlp : H pl = none := by rw [zb5 (Ne.symm hDl)] at hpl; exact hpl
 refine yd0 (fun σ Hx => ∃ (dn : List Str) (kv : V), σ = [some (.ref wd), some kv, some (.ref Dp), some (.ref pl)] /\ Hx = upd (upd H Dp (.dK (kvE D.tr))) pl (.lst (dn.map V.str)) /\ dn.length <= 12 /\ ((kv = .non /\ dn = l) ∨ ∃ x rs, kv = .str x /\ Up D.tr x rs /\ dn ++ rs = l))
  (fun σ Hx => match Hx pl with | some (.lst xs) => 100 - xs.length | _ => 0) ⟨[], .str n, rfl, rfl, by decide, .inr ⟨n, l, rfl, hup, rfl⟩⟩ ?_ ?_
 ·rintro σ Hx ⟨dn, kv, rfl, rfl, hd, hc⟩
  have hdl : ∀ o, upd (upd H Dp (.dK (kvE D.tr))) pl o Dp = some (.dK (kvE D.tr)) := fun o => by rw [zb5 hDl]; exact zb1
  rcases hc with ⟨rfl, rfl⟩ | ⟨x, rs, rfl, hx, hl⟩
  ·refine ⟨_, rfl, _, rfl, ?_⟩
   show if (!decide (V.non = V.non)) = true then _ else _
   rw [if_neg (by trivial)]
   exact ⟨_, rfl, q pl _ (((FrS.refl).put hDp).put hlp) hlp zb1⟩
  ·refine ⟨_, rfl, _, rfl, ?_⟩
   show if (!decide (V.str x = V.non)) = true then _ else _
   rw [if_pos (by trivial)]
   have hd2 : dn.length + 1 <= 12 := by
    obtain ⟨i, g, hi⟩ := hup.at
    have h1 := Up.len hO.ok i n g l hi hup
    obtain ⟨h2, _⟩ := List.getElem?_eq_some_iff.mp hi
    have h3 := congrArg List.length hl
    rw [List.length_append] at h3
    have h4 : 1 <= rs.length := by cases hx <;> simp
    omega
   refine ⟨_, rfl, .inl ⟨rfl, _, SqL.of zb1⟩, _, rfl, pl, _, _, rfl, rfl, zb1, by rw [lqm]; exact s1 (by omega), _, rfl, _, rfl, Dp, ?_⟩
   rw [zs3]
   have mz : (match upd (upd H Dp (.dK (kvE D.tr))) pl (.lst (dn.map V.str ++ [V.str x])) pl with | some (HO.lst xs) => 100 - xs.length | _ => 0) < (match upd (upd H Dp (.dK (kvE D.tr))) pl (.lst (dn.map V.str)) pl with | some (HO.lst xs) => 100 - xs.length | _ => 0) := by
    rw [zb1, zb1]
    show 100 - (dn.map V.str ++ [V.str x]).length < 100 - (dn.map V.str).length
    rw [List.length_append, lqm, List.length_singleton]
    omega
   have ee : dn.map V.str ++ [V.str x] = (dn ++ [x]).map V.str := by rw [List.map_append]; rfl
   cases hx with
   | @root i _ hi =>
    refine ⟨.non, rfl, ?_, ⟨dn ++ [x], .non, rfl, by rw [ee], by rw [List.length_append, List.length_singleton]; exact hd2, .inl ⟨rfl, hl⟩⟩, mz⟩
    have := DGet.k (k := (Sum.inr x : Key)) (hdl (.lst (dn.map V.str ++ [V.str x])))
    rw [zp0 hO.ok hi] at this
    exact this
   | @step i _ e l' hi hb =>
    refine ⟨.str e, rfl, ?_, ⟨dn ++ [x], .str e, rfl, by rw [ee], by rw [List.length_append, List.length_singleton]; exact hd2, .inr ⟨e, l', rfl, hb, by rw [← hl]; simp⟩⟩, mz⟩
    have := DGet.k (k := (Sum.inr x : Key)) (hdl (.lst (dn.map V.str ++ [V.str x])))
    rw [zp0 hO.ok hi] at this
    exact this
 ·intro σ Hx R R' hR hc
  obtain ⟨v1, h1, c, h10, h11⟩ := hc
  exact ⟨v1, h1, c, h10, hR _ _ h11⟩
inductive SpHas (vs : List V) (H : Hp) (Q : VK) : Prop
 | mk (wd : Addr) (M : List Addr) (A : WA) (D : WD) (n d : Str) (h1 : vs = [.ref wd, .str n, .str d]) (h2 : Wld M H wd A D) (h3 : WOk D) (h4 : n ∈ D.names) (h5 : d ∈ D.deeds) (h6 : ∀ (b : Bool) (H' : Hp), FrS [] H H' -> Q (.bl b) H') : SpHas  vs H Q
def xz3 : Sp := fun vs H Q _ => SpHas  vs H Q
theorem scHas : zd3 ["_law_world_here", "_law_kind", "_law_deed_here"] ["_law_world_here", "_law_kind", "_law_deed_here"] (zb7 sHas) := ⟨rfl, rfl, rfl, by decide +kernel, rfl, by decide +kernel, by decide +kernel⟩
theorem xz2 {D : WD} (hO : WOk D) {n : Str} (hn : n ∈ D.names) : ∃ l, Up D.tr n l /\ l.length <= 12 /\ ∀ x ∈ l, x ∈ D.names := by
 obtain ⟨z, hz, e⟩ := List.mem_map.mp hn
 obtain ⟨i, hi, ei⟩ := List.getElem_of_mem hz
 have hg : D.tr[i]? = some (n, z.2) := by rw [List.getElem?_eq_getElem hi, ei, ← e]
 obtain ⟨l, hl⟩ := Up.exists hO.ok i n z.2 hg
 have := Up.len hO.ok i n z.2 l hg hl
 have := hO.l12
 exact ⟨l, hl, by omega, hl.mem⟩
theorem ok_has {k : Nat} (F : Fun K "_law_has" "_law_has" sHas f fd) (T : Cal P w K mg base k "_law_line" ["_law_world_here", "_law_kind"] yg7) (ma : mg "any" = none) : FnOk P w K mg base CX0 (k + 1) f fd ["_law_world_here", "_law_kind", "_law_deed_here"] xz3 := by
 obtain ⟨g, gd, GT, bT, kT, mT⟩ := T.ex
 refine F.ok scHas (fun vs H Q E h => ?_) (fun cdv A outer s H vs Q E hr h => ?_)
 ·obtain ⟨wd, M, A, D, n, d, rfl, _⟩ := h
  rfl
 obtain ⟨wd, M, WA, D, n, d, rfl, hW, hO, hn, hd, q⟩ := h
 have hu := zm7 hr
 have nd3 : (["_law_one", "_law_world_here", "_law_deed_here"] : List Str).Nodup := by decide +kernel
 refine ⟨_, zb9 (zd4 (zd6 (xr0 rfl) rfl ma (by decide +kernel) (zb0 (zh8 (N' := ["_law_one", "_law_world_here", "_law_deed_here"]) (src := [none, some 0, some 2]) rfl ⟨rfl, by decide +kernel, by decide +kernel, rfl, rfl, rfl⟩
   (zh0 (zb8 GT hr rfl mT kT bT .nil zc6 (zb0 (pv 0) (zb0 (pv 1) zb2))))
   (g := zf8 0) (fun _ _ _ _ => zc0 (i := 0) nd3 rfl (Or.inl rfl) (Or.inr rfl)) (fun _ _ _ _ => zh3)
   (fun _ _ _ _ => zn2 (show OpR _ _ (rIn K false) from zg9) (pv 0) (zc9 hu (zc9 hu (pv 1) zd5 (fun _ _ => rfl)) (pv 2) (fun _ _ => rfl)) rfl)) zb2))), ?_⟩
 first | dsimp only [cxOf, Cx.nox] | skip
 have s1 : ∀ {n : Nat}, n <= 1000 -> n < sizeLine := fun h => zc2 h
 obtain ⟨l, hl, hl12, hlm⟩ := xz2 hO hn
 obtain ⟨op, os, o1, o2, o3, o4⟩ := hW.ol d hd
 refine ⟨_, rfl, _, rfl, wd, M, WA, D, n, l, rfl, hW, hO, hl, fun la H1 f1 hla hla1 => ⟨la, rfl, ⟨_, SqL.of hla1⟩, fun Dl hDl => ?_⟩⟩
 refine zj7 (xs := l.map V.str) (fun i σ Hx => (∃ x, σ = [x, some (.ref wd), some (.str d)]) /\ FrS [] H1 Hx /\ ∃ bs : List Bool, bs.length <= i /\ Hx Dl = some (.lst (bs.map V.bl))) ⟨⟨_, rfl⟩, (FrS.refl).put hDl, [], by simp, zb1⟩ ?_ ?_ ?_
 ·rintro i σ Hx hi ⟨_, fr, _⟩
  exact SqL.of (fr _ _ (by trivial) hla1)
 ·rintro i x σ Hx hx ⟨⟨x0, rfl⟩, fr, bs, hb, hDx⟩
  obtain ⟨hi, _⟩ := List.getElem?_eq_some_iff.mp hx
  rw [lqm] at hi
  rw [List.getElem?_map, List.getElem?_eq_getElem hi] at hx
  cases hx
  have fr2 : FrS M H Hx := (f1.trans fr).mono (by trivial)
  have hW2 := hW.keep fr2
  have o2' := o2.keep fr2
  refine ⟨_, rfl, _, rfl, wd, _, rfl, hW2.g.2.2.2.2.1, _, rfl, WA.owners, _, rfl, .inl ⟨_, Sum.inr d, .inl hW2.owners.2, rfl, o1.symm⟩, op, _, rfl, .inl (SqL.of o2'.2), rfl, zg7 _, _, hDx, ?_, ⟨_, rfl⟩, fr.put hDl, bs ++ [inV (.str l[i]) (os.map V.str)], ?_, ?_⟩
  ·rw [lqm]; exact s1 (by omega)
  ·rw [List.length_append, List.length_singleton]; omega
  ·rw [zb1, List.map_append]; rfl
 ·rintro σ Hx ⟨_, fr, bs, hb, hDx⟩
  exact ⟨Dl, bs, rfl, SqL.of hDx, q _ Hx (f1.trans fr)⟩
end
end Gn
end
section
namespace Gn
open PySem L2
abbrev Ms (hd en : Addr) (A : WA) : List Addr := [hd, en, A.told, A.held]
structure Sit (H : Hp) (hd en wd : Addr) (A : WA) (D : WD) (t r : Int) : Prop where
 hand : ∃ d m, Hand H hd d m t r
 env : ∃ kv, H en = some (.dK kv) /\ DOk D.U D.names kv
 told : ∃ kv, H A.told = some (.dK kv) /\ DOk D.deeds D.names kv
 held : ∃ kv, H A.held = some (.dK kv) /\ DOk D.fields D.names kv
 w : Wld (Ms hd en A) H wd A D
 nd : (Ms hd en A).Nodup
 ok : WOk D
section
variable {H H' : Hp} {hd en wd : Addr} {A : WA} {D : WD} {t r : Int}
theorem Sit.fr0 (S : Sit H hd en wd A D t r) (f : FrS [] H H') : Sit H' hd en wd A D t r := by
 obtain ⟨⟨d, m, h1, h1'⟩, ⟨k1, e1, e1'⟩, ⟨k2, e2, e2'⟩, ⟨k3, e3, e3'⟩, w, nd, ok⟩ := S
 exact ⟨⟨d, m, f _ _ (by trivial) h1, h1'⟩, ⟨k1, f _ _ (by trivial) e1, e1'⟩, ⟨k2, f _ _ (by trivial) e2, e2'⟩, ⟨k3, f _ _ (by trivial) e3, e3'⟩, w.keep (f.mono (by trivial)), nd, ok⟩
theorem Sit.ne (S : Sit H hd en wd A D t r) : hd ≠ en /\ hd ≠ A.told /\ hd ≠ A.held /\ en ≠ A.told /\ en ≠ A.held /\ A.told ≠ A.held := by
 have := S.nd
 simp only [Ms, List.nodup_cons, List.mem_cons, List.not_mem_nil, or_false, not_or] at this
 exact ⟨this.1.1, this.1.2.1, this.1.2.2, this.2.1.1, this.2.1.2, this.2.2.1⟩
theorem Sit.setHand (S : Sit H hd en wd A D t r) {d' m' t' r' : Int} (ok : zv1 d' m' t') : Sit (upd H hd (hl d' m' t' r')) hd en wd A D t' r' := by
 obtain ⟨n1, n2, n3, n4, n5, n6⟩ := S.ne
 obtain ⟨⟨d, m, h1⟩, ⟨k1, e1, e1'⟩, ⟨k2, e2, e2'⟩, ⟨k3, e3, e3'⟩, w, nd, wok⟩ := S
 exact ⟨⟨d', m', Hand.at ok⟩, ⟨k1, by rw [zb5 n1.symm]; exact e1, e1'⟩, ⟨k2, by rw [zb5 n2.symm]; exact e2, e2'⟩, ⟨k3, by rw [zb5 n3.symm]; exact e3, e3'⟩, w.keep (FrS.chg (by trivial)), nd, wok⟩
theorem Sit.setEnv (S : Sit H hd en wd A D t r) {kv : List (Key × V)} (h : DOk D.U D.names kv) : Sit (upd H en (.dK kv)) hd en wd A D t r := by
 obtain ⟨n1, n2, n3, n4, n5, n6⟩ := S.ne
 obtain ⟨⟨d, m, h1, h1'⟩, ⟨k1, e1, e1'⟩, ⟨k2, e2, e2'⟩, ⟨k3, e3, e3'⟩, w, nd, wok⟩ := S
 exact ⟨⟨d, m, by rw [zb5 n1]; exact h1, h1'⟩, ⟨kv, zb1, h⟩, ⟨k2, by rw [zb5 n4.symm]; exact e2, e2'⟩, ⟨k3, by rw [zb5 n5.symm]; exact e3, e3'⟩, w.keep (FrS.chg (by trivial)), nd, wok⟩
theorem Sit.setTold (S : Sit H hd en wd A D t r) {kv : List (Key × V)} (h : DOk D.deeds D.names kv) : Sit (upd H A.told (.dK kv)) hd en wd A D t r := by
 obtain ⟨n1, n2, n3, n4, n5, n6⟩ := S.ne
 obtain ⟨⟨d, m, h1, h1'⟩, ⟨k1, e1, e1'⟩, ⟨k2, e2, e2'⟩, ⟨k3, e3, e3'⟩, w, nd, wok⟩ := S
 exact ⟨⟨d, m, by rw [zb5 n2]; exact h1, h1'⟩, ⟨k1, by rw [zb5 n4]; exact e1, e1'⟩, ⟨kv, zb1, h⟩, ⟨k3, by rw [zb5 n6.symm]; exact e3, e3'⟩, w.keep (FrS.chg (by trivial)), nd, wok⟩
theorem Sit.setHeld (S : Sit H hd en wd A D t r) {kv : List (Key × V)} (h : DOk D.fields D.names kv) : Sit (upd H A.held (.dK kv)) hd en wd A D t r := by
 obtain ⟨n1, n2, n3, n4, n5, n6⟩ := S.ne
 obtain ⟨⟨d, m, h1, h1'⟩, ⟨k1, e1, e1'⟩, ⟨k2, e2, e2'⟩, ⟨k3, e3, e3'⟩, w, nd, wok⟩ := S
 exact ⟨⟨d, m, by rw [zb5 n3]; exact h1, h1'⟩, ⟨k1, by rw [zb5 n5]; exact e1, e1'⟩, ⟨k2, by rw [zb5 n6]; exact e2, e2'⟩, ⟨kv, zb1, h⟩, w.keep (FrS.chg (by trivial)), nd, wok⟩
theorem Sit.have_ (S : Sit H hd en wd A D t r) : ∀ b ∈ Ms hd en A, ∃ o, H b = some o := by
 obtain ⟨⟨d, m, h1, h1'⟩, ⟨k1, e1, e1'⟩, ⟨k2, e2, e2'⟩, ⟨k3, e3, e3'⟩, w, nd, wok⟩ := S
 intro b hb
 simp only [Ms, List.mem_cons, List.not_mem_nil, or_false] at hb
 rcases hb with rfl | rfl | rfl | rfl
 ·exact ⟨_, h1⟩
 ·exact ⟨_, e1⟩
 ·exact ⟨_, e2⟩
 ·exact ⟨_, e3⟩
theorem Sit.notin (S : Sit H hd en wd A D t r) {p : Addr} (hp : H p = none) : p ∉ Ms hd en A := fun z => by
 obtain ⟨o, ho⟩ := S.have_ p z
 rw [hp] at ho; cases ho
theorem zj0 {p a : Addr} {ss : List Str} {d m t r : Int} (h : H p = some (.lst (ss.map V.str))) (hh : Hand H a d m t r) : p ≠ a := fun e => by
 subst e
 rw [hh.1] at h
 cases ss with
 | nil => cases h
 | cons x l => cases h
theorem FrS.thaw {a : Addr} {o : Obj} {u : HO} {Hx : Hp} (hu : H a = Option.some u) (f : FrS [] (upd H a (.frz o u)) Hx) : FrS [] H (upd Hx a u) := fun b v n q => by
 by_cases e : b = a
 ·subst e; rw [zb1]; rw [hu] at q; exact q
 ·rw [zb5 e]; exact f b v n (by rw [zb5 e]; exact q)
theorem DOk.strs {U N : List Str} {kvs : List (Key × V)} (h : DOk U N kvs) : ∃ ss : List Str, kvs.map (fun kv => kV kv.1) = ss.map V.str /\ ss.length = kvs.length /\ ∀ x ∈ ss, x ∈ U := by
 have key : ∀ l : List (Key × V), (∀ k ∈ l.map (·.1), ∃ x ∈ U, k = Sum.inr x) -> ∃ ss : List Str, l.map (fun kv => kV kv.1) = ss.map V.str /\ ss.length = l.length /\ ∀ x ∈ ss, x ∈ U := by
  intro l
  induction l with
  | nil => intro _; exact ⟨[], rfl, rfl, by simp⟩
  | cons a l ih =>
   intro hk
   obtain ⟨ss, e, el, hm⟩ := ih fun k hk' => hk k (List.mem_cons_of_mem _ hk')
   obtain ⟨x, hx, ex⟩ := hk a.1 (by trivial)
   refine ⟨x :: ss, ?_, by simp [el], ?_⟩
   ·rw [List.map_cons, List.map_cons, e, ex]; rfl
   ·intro y hy
    rcases List.mem_cons.mp hy with rfl | hy
    ·exact hx
    ·exact hm y hy
 exact key kvs h.ks
end
abbrev sVar : Stmt := top 25
abbrev sTgt : Stmt := top 26
abbrev yv2 : Stmt := top 27
inductive SpVar (vs : List V) (H : Hp) (Q : VK) : Prop
 | mk (hd en wd : Addr) (A : WA) (D : WD) (t r : Int) (h1 : vs = [.ref hd, .ref wd, .ref en]) (h2 : Sit H hd en wd A D t r) (h3 : t + 2 < 1000000) (h4 : ∀ (x : Str) (H' : Hp) (t' : Int), Sit H' hd en wd A D t' r -> FrS (Ms hd en A) H H' -> t' <= t + 2 -> FrS [hd] H H' -> Q (.str x) H') : SpVar  vs H Q
def yj8 : Sp := fun vs H Q _ => SpVar  vs H Q
section
variable {P : Program} {w : World} {K : PySem.W.Frag} {mg : Str -> Option Value} {base : Heap} {f : Addr} {fd : FuncData}
theorem scVar : zd3 ["_law_hand_here", "_law_world_here", "_law_env", "_law_some"] ["_law_hand_here", "_law_world_here", "_law_env"] (zb7 sVar) := ⟨rfl, rfl, rfl, by decide +kernel, rfl, by decide +kernel, by decide +kernel⟩
theorem ok_var {k : Nat} (F : Fun K "_law_variable" "_law_variable" sVar f fd) (T : Cal P w K mg base k "_law_take" ["_law_hand_here", "_law_many"] zh5) (O : Cal P w K mg base k "_law_of" ["_law_hand_here", "_law_some"] (spOf K)) (mli : mg "list" = none) :
  FnOk P w K mg base CX0 (k + 1) f fd ["_law_hand_here", "_law_world_here", "_law_env"] yj8 := by
 obtain ⟨g, gd, GT, bT, kT, mT⟩ := T.ex
 obtain ⟨g2, gd2, GO, bO, kO, mO⟩ := O.ex
 refine F.ok scVar (fun vs H Q E h => ?_) (fun cdv A outer s H vs Q E hr h => ?_)
 ·obtain ⟨hd, en, wd, A, D, t, r, rfl, _⟩ := h
  rfl
 obtain ⟨hd, en, wd, WA, D, t, r, rfl, S, ht, q⟩ := h
 have hu := zm7 hr
 have nd2 : (["_law_x", "_law_env"] : List Str).Nodup := by decide +kernel
 refine ⟨_, zb3 (xj4 (zh1 (i := 3) (N' := ["_law_x", "_law_env"]) (src := [none, some 2]) rfl scVar.nd rfl rfl ⟨rfl, by decide +kernel, by decide +kernel, rfl, rfl, rfl⟩
   (yc9 (pv 2)) (g := zf8 0) (fun _ _ _ _ => zc0 (i := 0) nd2 rfl (Or.inl rfl) (Or.inr rfl))
   (fun _ _ _ _ => zm5 (zt7 (zz5 (zc9 hu (pv 1) (pv 0) (fun _ _ => rfl))))) (fun _ _ _ _ => pv 0)))
  (zb3 (zh9 (PW.pt (zn4 (zc7 (yd4 (Nat.lt_of_succ_lt hu)) (pv 3) (zd7 zb2) (zd8 _)) (zk9 (zc7 yd3 (zb8 GT hr rfl mT kT bT .nil zc6 (zb0 (pv 0) (zb0 zb6 zb2))) zb6 (zd8 _)))))
   (zb9 (zd4 (zb8 GO hr rfl mO kO bO .nil zc6 (zb0 (pv 0) (zb0 (pv 3) zb2))))) zd9)
  (zb9 (zd4 (zb8 GO hr rfl mO kO bO .nil zc6 (zb0 (pv 0) (zb0 (zf7 yc3 (zc9 hu (pv 1) zd5 (fun _ _ => rfl)) (zd1 (yb0 rfl) rfl mli (by decide +kernel) (zb0 (pv 2) zb2))) zb2)))))), ?_⟩
 first | dsimp only [cxOf, Cx.nox] | skip
 have s1 : ∀ {n : Nat}, n <= 1000 -> n < sizeLine := fun h => zc2 h
 obtain ⟨kv, hen, hk⟩ := S.env
 have hU : D.U.length = 9 := by unfold WD.U; rw [List.length_cons, List.length_append, S.ok.v4, S.ok.p4]
 have hkl := hk.len
 obtain ⟨us, eu, eul, _⟩ := hk.strs
 refine ⟨en, kv, hen, ?_⟩
 refine ⟨_, rfl, en, kv, rfl, hen, fun o Dl hDl => ?_⟩
 have hDe : Dl ≠ en := fun z => by rw [z, zb1] at hDl; cases hDl
 have hD0 : H Dl = none := by rw [zb5 hDe] at hDl; exact hDl
 refine yg6 (xs := kv.map fun p => kV p.1) (fun i σ Hx => (∃ x, σ = [x, some (.ref en)]) /\ FrS [] (upd H en (.frz o (.dK kv))) Hx /\ ∃ ss : List Str, ss.length <= i /\ Hx Dl = some (.lst (ss.map V.str))) ⟨⟨_, rfl⟩, (FrS.refl).put hDl, [], by simp, zb1⟩ ?_ ?_ ?_
 ·rintro i σ Hx hi ⟨_, fr, _⟩
  exact fr _ _ (by trivial) zb1
 ·rintro i x σ Hx hx ⟨⟨x0, rfl⟩, fr, ss, hs, hDx⟩
  have hx' := hx
  rw [eu] at hx
  obtain ⟨hi, _⟩ := List.getElem?_eq_some_iff.mp hx
  rw [lqm] at hi
  rw [List.getElem?_map, List.getElem?_eq_getElem hi] at hx
  cases hx
  have hin : (Sum.inr us[i] : Key) ∈ kv.map (·.1) := by
   rw [List.getElem?_map] at hx'
   obtain ⟨p, hp, e⟩ := Option.map_eq_some_iff.mp hx'
   have : p.1 = Sum.inr us[i] := by
    obtain ⟨y, _, ey⟩ := hk.ks p.1 (List.mem_map.mpr ⟨p, List.mem_of_getElem? hp, rfl⟩)
    rw [ey] at e ⊢
    cases e
    rfl
   exact List.mem_map.mpr ⟨p, List.mem_of_getElem? hp, this⟩
  obtain ⟨v, hv⟩ : ∃ v, valV kv (Sum.inr us[i]) = some v := by
   cases z : valV kv (Sum.inr us[i]) with
   | some v => exact ⟨v, rfl⟩
   | none => exact absurd hin (zv5 z)
  refine ⟨_, rfl, _, rfl, en, v, rfl, .inl ⟨kv, Sum.inr us[i], .inr ⟨o, fr _ _ (by trivial) zb1⟩, rfl, hv.symm⟩, _, rfl, ?_⟩
  refine ite2 (fun c => ?_) (fun c => ?_)
  ·refine ⟨_, rfl, _, hDx, by rw [lqm]; exact s1 (by omega), ⟨_, rfl⟩, fr.put hDl, ss ++ [us[i]], ?_, ?_⟩
   ·rw [List.length_append, List.length_singleton]; omega
   ·rw [zb1, List.map_append]; rfl
  ·exact ⟨⟨_, rfl⟩, fr, ss, by omega, hDx⟩
 ·rintro σ Hx ⟨_, fr, ss, hs, hDx⟩
  rw [lqm] at hs
  refine ⟨o, fr _ _ (by trivial) zb1, ?_⟩
  have f1 : FrS [] H (upd Hx en (.dK kv)) := FrS.thaw hen fr
  have S1 := S.fr0 f1
  have hD1 : upd Hx en (.dK kv) Dl = some (.lst (ss.map V.str)) := by rw [zb5 hDe]; exact hDx
  generalize upd Hx en (.dK kv) = H1 at f1 S1 hD1
  have last : ∀ (H2 : Hp) (t2 : Int), Sit H2 hd en wd WA D t2 r -> FrS (Ms hd en WA) H H2 -> FrS [hd] H H2 -> t2 <= t + 1 ->
    tRet (zm2 (spOf K) [] E (zc4 (tVar 0) (zc4 (tOp rCat (yt9 (tVar 1) (tC (.str "vars"))) (tCB (fun xs H Q => ∃ p kvs, xs = [.ref p] /\ Rd H p (.dK kvs) /\ ∀ l, H l = none -> Q (.ref l) (upd H l (.lst (kvs.map fun kv => kV kv.1)))) (zc4 (tVar 2) tNil))) tNil))) ⟨fun _ H => Q .non H, Q, fun _ _ => False, fun _ _ => False⟩ [some (.ref hd), some (.ref wd), some (.ref en), some (.ref Dl)] H2 := by
   intro H2 t2 S2 f2 f2' ht2
   obtain ⟨kv2, hen2, hk2⟩ := S2.env
   obtain ⟨us2, eu2, eul2, _⟩ := hk2.strs
   have hkl2 := hk2.len
   refine ⟨_, rfl, _, rfl, wd, _, rfl, S2.w.g.2.2.2.2.2.1, _, rfl, en, kv2, rfl, .inl hen2, fun l hl => ?_⟩
   have S3 := S2.fr0 (FrS.new (S := []) (o := .lst (kv2.map fun kv => kV kv.1)) hl)
   refine ⟨WA.vars, l, _, _, rfl, rfl, S3.w.vars.2, zb1, ?_, fun p hp => ?_⟩
   ·rw [lqm, lqm, S.ok.v4]; exact Nat.le_of_lt (s1 (by omega))
   ·have S4 := S3.fr0 (FrS.new (S := []) (o := .lst (D.vars.map V.str ++ kv2.map fun kv => kV kv.1)) hp)
    rw [eu2, ← List.map_append] at S4 ⊢
    rw [eu2] at hp
    obtain ⟨d, m, hh⟩ := S4.hand
    refine ⟨hd, p, d, m, t2, r, _, rfl, hh, by omega, zj0 (ss := D.vars ++ us2) zb1 hh, SqL.of zb1, ?_, ?_, fun x d' m' t' hx c e => ?_⟩
    ·intro z; have := congrArg List.length z; rw [lqm, List.length_append, S.ok.v4, List.length_nil] at this; omega
    ·rw [lqm, List.length_append, S.ok.v4]; omega
    obtain ⟨y, hy, rfl⟩ := List.mem_map.mp hx
    refine q y _ t' (S4.setHand c) ?_ (by omega) ?_
    ·exact (f2.trans ((FrS.new hl).trans (FrS.new hp))).put' (by trivial)
    ·exact (f2'.trans ((FrS.new hl).trans (FrS.new hp))).put' (by trivial)
  refine ⟨_, rfl, Nat.zero_le _, fun pe hpe => ?_⟩
  have S2 := S1.fr0 (FrS.new (S := []) (o := .lst []) hpe)
  have hDp : Dl ≠ pe := zb4 hD1 hpe
  refine ⟨Dl, pe, _, rfl, rfl, hDp, SqL.of (by rw [zb5 hDp]; exact hD1), SqL.of zb1, _, rfl, ?_⟩
  have f2 : FrS (Ms hd en WA) H (upd H1 pe (.lst [])) := (f1.trans (FrS.new hpe)).mono (by trivial)
  have f2' : FrS [hd] H (upd H1 pe (.lst [])) := (f1.trans (FrS.new hpe)).mono (by trivial)
  cases ss with
  | nil => exact last _ t S2 f2 f2' (by omega)
  | cons y ys =>
   obtain ⟨d, m, hh⟩ := S2.hand
   refine ⟨_, rfl, hd, d, m, t, r, 4, rfl, hh, by omega, by decide, by decide, fun x d' m' t3 x0 x1 c e => ⟨_, _, rfl, rfl, _, rfl, ?_⟩⟩
   have S3 := S2.setHand (r' := r) c
   have f3 := f2.put' (a := hd) (o := hl d' m' t3 r) (by trivial)
   have f3' := f2'.put' (a := hd) (o := hl d' m' t3 r) (by trivial)
   have hDh : Dl ≠ hd := zj0 (ss := y :: ys) (by rw [zb5 hDp]; exact hD1) hh
   refine ite2 (fun c => ?_) (fun c => ?_)
   ·obtain ⟨d, m, hh⟩ := S3.hand
    refine ⟨_, rfl, _, rfl, hd, Dl, d, m, t3, r, _, rfl, hh, by omega, hDh, SqL.of (by rw [zb5 hDh, zb5 hDp]; exact hD1), by simp, by rw [lqm]; omega, fun x d' m' t' hx c e => ?_⟩
    obtain ⟨y, hy, rfl⟩ := List.mem_map.mp hx
    exact q y _ t' (S3.setHand c) (f3.put' (by trivial)) (by omega) (f3'.put' (by trivial))
   ·exact last _ t3 S3 f3 f3' e
end
end Gn
end
section
namespace Gn
open PySem L2
def Tup (H H' : Hp) : Prop := ∀ b xs, H b = some (.tup xs) -> H' b = some (.tup xs)
theorem Tup.trans {A B C : Hp} (f : Tup A B) (g : Tup B C) : Tup A C := fun b xs h => g b xs (f b xs h)
theorem Tup.of0 {H H' : Hp} (f : FrS [] H H') : Tup H H' := fun b _ h => f b _ List.not_mem_nil h
theorem Tup.new {H : Hp} {p : Addr} {o : HO} (hp : H p = none) : Tup H (upd H p o) := fun b xs h => by
 rw [zb5 (zb4 h hp)]; exact h
theorem Tup.lst {H : Hp} {p : Addr} {o : HO} {ys : List V} (hp : H p = some (.lst ys)) : Tup H (upd H p o) := fun b xs h => by
 rw [zb5 (fun z => by rw [z, hp] at h; cases h)]; exact h
theorem FrS.tup {M : List Addr} {H H' : Hp} (f : FrS M H H') (hm : ∀ b ∈ M, ∀ xs, H b ≠ some (.tup xs)) : Tup H H' := fun b xs h => f b _ (fun z => hm b z xs h) h
theorem Sit.notup {H : Hp} {hd en wd : Addr} {A : WA} {D : WD} {t r : Int} (S : Sit H hd en wd A D t r) : ∀ b ∈ Ms hd en A, ∀ xs, H b ≠ some (.tup xs) := by
 obtain ⟨⟨d, m, h1, h1'⟩, ⟨k1, e1, e1'⟩, ⟨k2, e2, e2'⟩, ⟨k3, e3, e3'⟩, w, nd, wok⟩ := S
 intro b hb xs
 simp only [Ms, List.mem_cons, List.not_mem_nil, or_false] at hb
 rcases hb with rfl | rfl | rfl | rfl
 ·rw [h1]; intro z; cases z
 ·rw [e1]; intro z; cases z
 ·rw [e2]; intro z; cases z
 ·rw [e3]; intro z; cases z
theorem Sit.tup {H H' : Hp} {hd en wd : Addr} {A : WA} {D : WD} {t r : Int} (S : Sit H hd en wd A D t r) (f : FrS (Ms hd en A) H H') : Tup H H' := FrS.tup f S.notup
inductive PlainR (H : Hp) (a : Addr) : Prop
 | mk (w : Str) (rest : List V) (h : H a = some (.tup (.str w :: rest))) (n1 : w ≠ "call") (n2 : w ≠ "either") (n3 : w ≠ "again") : PlainR H a
inductive CallR (H : Hp) (a : Addr) : Prop
 | mk (x y k d : Str) (g : Addr) (ss : List Str) (h : H a = some (.tup [.str "call", .str x, .str y, .str k, .str d, .ref g])) (hg : H g = some (.tup (ss.map V.str))) (hl : ss.length <= 1000) : CallR H a
theorem PlainR.keep {H H' : Hp} {a : Addr} (h : PlainR H a) (f : Tup H H') : PlainR H' a := by
 obtain ⟨w, rest, h, n1, n2, n3⟩ := h
 exact ⟨w, rest, f _ _ h, n1, n2, n3⟩
theorem CallR.keep {H H' : Hp} {a : Addr} (h : CallR H a) (f : Tup H H') : CallR H' a := by
 obtain ⟨x, y, k, d, g, ss, h, hg, hl⟩ := h
 exact ⟨x, y, k, d, g, ss, f _ _ h, f _ _ hg, hl⟩
def Row1 (H : Hp) (a : Addr) : Prop := PlainR H a ∨ CallR H a
inductive Fl (H : Hp) : Nat -> List Addr -> List Addr -> Prop
 | nil {n : Nat} : Fl H n [] []
 | one {n : Nat} {a : Addr} {rs fs : List Addr} (h : Row1 H a) (t : Fl H n rs fs) : Fl H n (a :: rs) (a :: fs)
 | again {n : Nat} {a l : Addr} {rs1 fs1 rs fs : List Addr} (h : H a = some (.tup [.str "again", .ref l])) (hl : H l = some (.tup (rs1.map V.ref))) (s : Fl H n rs1 fs1) (t : Fl H (n + 1) rs fs) : Fl H (n + 1) (a :: rs) (a :: (fs1 ++ fs))
 | either {n : Nat} {a l1 l2 : Addr} {rs1 fs1 rs2 fs2 rs fs : List Addr} (h : H a = some (.tup [.str "either", .ref l1, .ref l2])) (h1 : H l1 = some (.tup (rs1.map V.ref))) (h2 : H l2 = some (.tup (rs2.map V.ref))) (s1 : Fl H n rs1 fs1) (s2 : Fl H n rs2 fs2) (t : Fl H (n + 1) rs fs) : Fl H (n + 1) (a :: rs) (a :: (fs1 ++ (fs2 ++ fs)))
theorem Fl.keep {H H' : Hp} {n : Nat} {rs fs : List Addr} (h : Fl H n rs fs) (f : Tup H H') : Fl H' n rs fs := by
 induction h with
 | nil => exact .nil
 | one h _ ih => exact .one (h.imp (·.keep f) (·.keep f)) ih
 | again h hl _ _ i1 i2 => exact .again (f _ _ h) (f _ _ hl) i1 i2
 | either h h1 h2 _ _ _ i1 i2 i3 => exact .either (f _ _ h) (f _ _ h1) (f _ _ h2) i1 i2 i3
theorem Fl.app {H : Hp} {n : Nat} {rs fs rs' fs' : List Addr} (h : Fl H n rs fs) (g : Fl H n rs' fs') : Fl H n (rs ++ rs') (fs ++ fs') := by
 induction h with
 | nil => exact g
 | one h _ ih => exact .one h (ih g)
 | again h hl s _ i1 i2 =>
  have := Fl.again h hl s (i2 g)
  rw [← List.append_assoc] at this
  exact this
 | either h h1 h2 s1 s2 _ i1 i2 i3 =>
  have := Fl.either h h1 h2 s1 s2 (i3 g)
  simpa [List.append_assoc] using this
theorem Fl.len {H : Hp} {n : Nat} {rs fs : List Addr} (h : Fl H n rs fs) : rs.length <= fs.length := by
 induction h with
 | nil => exact Nat.le_refl _
 | one h _ ih => exact Nat.succ_le_succ ih
 | again h hl s _ i1 i2 => rw [List.length_cons, List.length_cons, List.length_append]; omega
 | either h h1 h2 s1 s2 _ i1 i2 i3 => rw [List.length_cons, List.length_cons, List.length_append, List.length_append]; omega
inductive yp7 (H : Hp) (a : Addr) : Prop
 | mk (w : Str) (rest : List V) (h : H a = some (.tup (.str w :: rest))) (c : w = "call" -> CallR H a) : yp7 H a
theorem Row1.is {H : Hp} {a : Addr} (h : Row1 H a) : yp7 H a := by
 rcases h with ⟨w, rest, h, n1, _, _⟩ | ⟨x, y, k, d, g, ss, h, hg, hl⟩
 ·exact ⟨w, rest, h, fun e => absurd e n1⟩
 ·exact ⟨_, _, h, fun _ => ⟨x, y, k, d, g, ss, h, hg, hl⟩⟩
theorem Fl.is {H : Hp} {n : Nat} {rs fs : List Addr} (h : Fl H n rs fs) : ∀ a ∈ fs, yp7 H a := by
 have na : ("again" : Str) ≠ "call" := by decide +kernel
 have ne : ("either" : Str) ≠ "call" := by decide +kernel
 induction h with
 | nil => intro a h; cases h
 | one h _ ih =>
  intro a ha
  cases ha with
  | head => exact h.is
  | tail _ ha => exact ih a ha
 | again h hl s _ i1 i2 =>
  intro a ha
  cases ha with
  | head => exact ⟨_, _, h, fun e => absurd e na⟩
  | tail _ ha => exact (List.mem_append.mp ha).elim (i1 a) (i2 a)
 | either h h1 h2 s1 s2 _ i1 i2 i3 =>
  intro a ha
  cases ha with
  | head => exact ⟨_, _, h, fun e => absurd e ne⟩
  | tail _ ha => exact (List.mem_append.mp ha).elim (i1 a) fun ha => (List.mem_append.mp ha).elim (i2 a) (i3 a)
inductive Lots (H : Hp) (n : Nat) : List Addr -> List Addr -> Prop
 | nil : Lots H n [] []
 | snoc {ls fs : List Addr} {l : Addr} {rs f1 : List Addr} (h : Lots H n ls fs) (hl : H l = some (.tup (rs.map V.ref))) (s : Fl H n rs f1) : Lots H n (ls ++ [l]) (fs ++ f1)
theorem Lots.keep {H H' : Hp} {n : Nat} {ls fs : List Addr} (h : Lots H n ls fs) (f : Tup H H') : Lots H' n ls fs := by
 induction h with
 | nil => exact .nil
 | snoc _ hl s ih => exact ih.snoc (f _ _ hl) (s.keep f)
theorem Lots.zero {H : Hp} {n : Nat} {ls fs : List Addr} (h : Lots H n ls fs) (e : ls.length = 0) : ls = [] /\ fs = [] := by
 cases h with
 | nil => exact ⟨rfl, rfl⟩
 | snoc h hl s => rw [List.length_append, List.length_singleton] at e; omega
theorem Lots.one {H : Hp} {n : Nat} {ls fs : List Addr} (h : Lots H n ls fs) (e : ls.length = 1) : ∃ l rs, ls = [l] /\ H l = some (.tup (rs.map V.ref)) /\ Fl H n rs fs := by
 cases h with
 | nil => cases e
 | snoc h hl s =>
  rw [List.length_append, List.length_singleton] at e
  obtain ⟨rfl, rfl⟩ := h.zero (by omega)
  exact ⟨_, _, rfl, hl, s⟩
theorem Lots.two {H : Hp} {n : Nat} {ls fs : List Addr} (h : Lots H n ls fs) (e : ls.length = 2) : ∃ l1 rs1 f1 l2 rs2 f2, ls = [l1, l2] /\ fs = f1 ++ f2 /\ H l1 = some (.tup (rs1.map V.ref)) /\ Fl H n rs1 f1 /\ H l2 = some (.tup (rs2.map V.ref)) /\ Fl H n rs2 f2 := by
 cases h with
 | nil => cases e
 | snoc h hl s =>
  rw [List.length_append, List.length_singleton] at e
  obtain ⟨l1, rs1, rfl, a, b⟩ := h.one (by omega)
  exact ⟨l1, rs1, _, _, _, _, rfl, rfl, a, b, hl, s⟩
theorem Lots.row {H : Hp} {n : Nat} {ls fs : List Addr} {a : Addr} {w : Str} (h : Lots H n ls fs) (ha : H a = some (.tup (.str w :: ls.map V.ref))) (e : ls.length = 1 /\ w = "again" ∨ ls.length = 2 /\ w = "either") : Fl H (n + 1) [a] (a :: fs) := by
 rcases e with ⟨e, rfl⟩ | ⟨e, rfl⟩
 ·obtain ⟨l, rs, rfl, b, s⟩ := h.one e
  have := Fl.again (rs := []) (fs := []) ha b s .nil
  rwa [List.append_nil] at this
 ·obtain ⟨l1, rs1, f1, l2, rs2, f2, rfl, rfl, b1, s1, b2, s2⟩ := h.two e
  have := Fl.either (rs := []) (fs := []) ha b1 b2 s1 s2 .nil
  rwa [List.append_nil] at this
end Gn
end
section
namespace Gn
open PySem L2
inductive SpTgt (vs : List V) (H : Hp) (Q : VK) : Prop
 | mk (hd en wd : Addr) (A : WA) (D : WD) (t r : Int) (h1 : vs = [.ref hd, .ref wd, .ref en]) (h2 : Sit H hd en wd A D t r) (h3 : t + 1 < 1000000) (h4 : ∀ (x : Str) (H' : Hp) (t' : Int), x ∈ D.U -> Sit H' hd en wd A D t' r -> FrS (Ms hd en A) H H' -> t' <= t + 1 -> FrS [hd] H H' -> Q (.str x) H') : SpTgt  vs H Q
def yn4 : Sp := fun vs H Q _ => SpTgt  vs H Q
section
variable {P : Program} {w : World} {K : PySem.W.Frag} {mg : Str -> Option Value} {base : Heap} {f : Addr} {fd : FuncData}
theorem scTgt : zd3 ["_law_hand_here", "_law_world_here", "_law_env"] ["_law_hand_here", "_law_world_here", "_law_env"] (zb7 sTgt) := ⟨rfl, rfl, rfl, by decide +kernel, rfl, by decide +kernel, by decide +kernel⟩
theorem ok_tgt {k : Nat} (F : Fun K "_law_target" "_law_target" sTgt f fd) (O : Cal P w K mg base k "_law_of" ["_law_hand_here", "_law_some"] (spOf K)) :
  FnOk P w K mg base CX0 (k + 1) f fd ["_law_hand_here", "_law_world_here", "_law_env"] yn4 := by
 obtain ⟨g2, gd2, GO, bO, kO, mO⟩ := O.ex
 refine F.ok scTgt (fun vs H Q E h => ?_) (fun cdv A outer s H vs Q E hr h => ?_)
 ·obtain ⟨hd, en, wd, A, D, t, r, rfl, _⟩ := h
  rfl
 obtain ⟨hd, en, wd, WA, D, t, r, rfl, S, ht, q⟩ := h
 have hu := zm7 hr
 have nd2 : (["_law_x", "_law_world_here"] : List Str).Nodup := by decide +kernel
 refine ⟨_, zb9 (zd4 (zb8 GO hr rfl mO kO bO .nil zc6 (zb0 (pv 0) (zb0 (zf7 yc3 (zc9 hu (pv 1) zd5 (fun _ _ => rfl))
   (xc9 (zh8 (N' := ["_law_x", "_law_world_here"]) (src := [none, some 1]) rfl ⟨rfl, by decide +kernel, by decide +kernel, rfl, rfl, rfl⟩
   (yc9 (pv 2)) (g := zf8 0) (fun _ _ _ _ => zc0 (i := 0) nd2 rfl (Or.inl rfl) (Or.inr rfl))
   (fun _ _ _ _ => zm5 (zc7 (show OpR _ _ (rIn K false) from zg9) (pv 0) (zc9 hu (pv 1) zd5 (fun _ _ => rfl)) rfl)) (fun _ _ _ _ => pv 0)))) zb2)))), ?_⟩
 first | dsimp only [cxOf, Cx.nox] | skip
 have s1 : ∀ {n : Nat}, n <= 1000 -> n < sizeLine := fun h => zc2 h
 obtain ⟨kv, hen, hk⟩ := S.env
 have hU : D.U.length = 9 := by unfold WD.U; rw [List.length_cons, List.length_append, S.ok.v4, S.ok.p4]
 have hkl := hk.len
 obtain ⟨us, eu, eul, hum⟩ := hk.strs
 refine ⟨_, rfl, _, rfl, wd, _, rfl, S.w.g.2.2.2.2.2.1, en, kv, hen, ?_⟩
 refine ⟨_, rfl, en, kv, rfl, hen, fun o Dl hDl => ?_⟩
 have hDe : Dl ≠ en := fun z => by rw [z, zb1] at hDl; cases hDl
 have hD0 : H Dl = none := by rw [zb5 hDe] at hDl; exact hDl
 have hwe : wd ≠ en := fun z => by obtain ⟨kvs, ⟨hn, _⟩, _⟩ := S.w.k; exact hn (by rw [z]; simp)
 refine yg6 (xs := kv.map fun p => kV p.1) (fun i σ Hx => (∃ x, σ = [x, some (.ref wd)]) /\ FrS [] (upd H en (.frz o (.dK kv))) Hx /\ ∃ ss : List Str, ss.length <= i /\ (∀ x ∈ ss, x ∈ D.U) /\ Hx Dl = some (.lst (ss.map V.str))) ⟨⟨_, rfl⟩, (FrS.refl).put hDl, [], by simp, by simp, zb1⟩ ?_ ?_ ?_
 ·rintro i σ Hx hi ⟨_, fr, _⟩
  exact fr _ _ (by trivial) zb1
 ·rintro i x σ Hx hx ⟨⟨x0, rfl⟩, fr, ss, hs, hsm, hDx⟩
  rw [eu] at hx
  obtain ⟨hi, _⟩ := List.getElem?_eq_some_iff.mp hx
  rw [lqm] at hi
  rw [List.getElem?_map, List.getElem?_eq_getElem hi] at hx
  cases hx
  have fr2 : FrS (Ms hd en WA) H Hx := fun b u n e => fr b u (by trivial) (by rw [zb5 (fun z => n (by rw [z]; simp))]; exact e)
  have W2 := S.w.keep fr2
  refine ⟨_, rfl, _, rfl, wd, _, rfl, W2.g.2.2.2.2.2.2.1, WA.params, _, rfl, .inl (SqL.of W2.params.2), rfl, zg7 _, _, rfl, ?_⟩
  refine ite2 (fun c => ?_) (fun c => ?_)
  ·refine ⟨_, rfl, _, hDx, by rw [lqm]; exact s1 (by omega), ⟨_, rfl⟩, fr.put hDl, ss ++ [us[i]], ?_, ?_, ?_⟩
   ·rw [List.length_append, List.length_singleton]; omega
   ·intro x hx
    rcases List.mem_append.mp hx with hx | hx
    ·exact hsm x hx
    ·rw [List.mem_singleton.mp hx]; exact hum _ (List.getElem_mem hi)
   ·rw [zb1, List.map_append]; rfl
  ·exact ⟨⟨_, rfl⟩, fr, ss, by omega, hsm, hDx⟩
 ·rintro σ Hx ⟨_, fr, ss, hs, hsm, hDx⟩
  rw [lqm] at hs
  refine ⟨o, fr _ _ (by trivial) zb1, ?_⟩
  have f1 : FrS [] H (upd Hx en (.dK kv)) := FrS.thaw hen fr
  have S1 := S.fr0 f1
  have hD1 : upd Hx en (.dK kv) Dl = some (.lst (ss.map V.str)) := by rw [zb5 hDe]; exact hDx
  refine ⟨WA.vars, Dl, _, _, rfl, rfl, S1.w.vars.2, hD1, ?_, fun p hp => ?_⟩
  ·rw [lqm, lqm, S.ok.v4]; exact Nat.le_of_lt (s1 (by omega))
  ·have S4 := S1.fr0 (FrS.new (S := []) (o := .lst (D.vars.map V.str ++ ss.map V.str)) hp)
   rw [← List.map_append] at S4 ⊢
   obtain ⟨d, m, hh⟩ := S4.hand
   refine ⟨hd, p, d, m, t, r, _, rfl, hh, by omega, zj0 (ss := D.vars ++ ss) zb1 hh, SqL.of zb1, ?_, ?_, fun x d' m' t' hx c e => ?_⟩
   ·intro z; have := congrArg List.length z; rw [lqm, List.length_append, S.ok.v4, List.length_nil] at this; omega
   ·rw [lqm, List.length_append, S.ok.v4]; omega
   obtain ⟨y, hy, rfl⟩ := List.mem_map.mp hx
   refine q y _ t' ?_ (S4.setHand c) ?_ (by omega) ?_
   ·rcases List.mem_append.mp hy with hy | hy
    ·unfold WD.U; simp [hy]
    ·exact hsm y hy
   ·exact ((f1.trans (FrS.new hp)).mono (by trivial)).put' (by trivial)
   ·exact ((f1.trans (FrS.new hp)).mono (by trivial)).put' (by trivial)
theorem zs1 {H1 : Hp} {tp : Addr} {ts : List Addr} {tr : Tr} {Dl : Addr} (ht : H1 tp = some (.lst (ts.map V.ref))) (hl : ts.length = tr.length) (h3 : ∀ (j : Nat) t x, ts[j]? = some t -> tr[j]? = some x -> H1 t = some (.tup [.str x.1, eldV x.2])) (hD : H1 Dl = none) (h12 : tr.length <= 1000)
  {Q : Hp -> Prop} (q : ∀ H', FrS [] H1 H' -> H' Dl = some (.lst ((tr.map (·.1)).map V.str)) -> Q H') : zz8 (Itl K tp) (gTup K 2 (zk1 (zf8 0) (zk1 (zf8 1) gNil))) tAll (tVar 0) Dl [none, none] (upd H1 Dl (.lst [])) Q := by
 refine zj7 (xs := ts.map V.ref) (fun i σ Hx => (∃ x y, σ = [x, y]) /\ FrS [] H1 Hx /\ Hx Dl = some (.lst (((tr.take i).map (·.1)).map V.str))) ⟨⟨_, _, rfl⟩, (FrS.refl).put hD, zb1⟩ ?_ ?_ ?_
 ·rintro i σ Hx hi ⟨_, fr, _⟩
  exact SqL.of (fr _ _ (by trivial) ht)
 ·rintro i x σ Hx hx ⟨⟨x0, y0, rfl⟩, fr, hDx⟩
  rw [List.getElem?_map] at hx
  obtain ⟨t, htt, rfl⟩ := Option.map_eq_some_iff.mp hx
  obtain ⟨hi, _⟩ := List.getElem?_eq_some_iff.mp htt
  have htr : tr[i]? = some tr[i] := List.getElem?_eq_getElem (by omega)
  have e := h3 i t _ htt htr
  refine ⟨t, _, rfl, SqT.of (fr _ _ (by trivial) e), rfl, _, _, rfl, _, _, rfl, rfl, ?_⟩
  refine ⟨_, rfl, _, hDx, ?_, ⟨_, _, rfl⟩, fr.put hD, ?_⟩
  ·rw [lqm, lqm, List.length_take]; exact zc2 (by omega)
  ·rw [zb1, List.take_add_one, htr, List.map_append, List.map_append]; rfl
 ·rintro σ Hx ⟨_, fr, hDx⟩
  rw [List.take_of_length_le (by rw [lqm]; omega)] at hDx
  exact q Hx fr hDx
inductive xt8 (vs : List V) (H : Hp) (Q : VK) : Prop
 | mk (hd en wd : Addr) (A : WA) (D : WD) (t r : Int) (h1 : vs = [.ref hd, .ref wd, .ref en]) (h2 : Sit H hd en wd A D t r) (h3 : t + 3 < 1000000) (h4 : ∀ (x : Addr) (H' : Hp) (t' : Int), PlainR H' x -> Sit H' hd en wd A D t' r -> FrS (Ms hd en A) H H' -> t' <= t + 3 -> Q (.ref x) H') : xt8  vs H Q
def ys3 : Sp := fun vs H Q _ => xt8  vs H Q
abbrev nMake : List Str := ["_law_hand_here", "_law_world_here", "_law_env", "_law_names", "_law_soon", "_law_kind", "_law_x"]
theorem ym0 : zd3 nMake ["_law_hand_here", "_law_world_here", "_law_env"] (zb7 yv2) := ⟨rfl, rfl, rfl, by decide +kernel, rfl, by decide +kernel, by decide +kernel⟩
theorem wc0 {k : Nat} (F : Fun K "_law_make" "_law_make" yv2 f fd) (T : Cal P w K mg base k "_law_take" ["_law_hand_here", "_law_many"] zh5) (O : Cal P w K mg base k "_law_of" ["_law_hand_here", "_law_some"] (spOf K)) (G : Cal P w K mg base k "_law_target" ["_law_hand_here", "_law_world_here", "_law_env"] yn4) :
  FnOk P w K mg base CX0 (k + 1) f fd ["_law_hand_here", "_law_world_here", "_law_env"] ys3 := by
 obtain ⟨g, gd, GT, bT, kT, mT⟩ := T.ex
 obtain ⟨g2, gd2, GO, bO, kO, mO⟩ := O.ex
 obtain ⟨g3, gd3, GG, bG, kG, mG⟩ := G.ex
 refine F.ok ym0 (fun vs H Q E h => ?_) (fun cdv A outer s H vs Q E hr h => ?_)
 ·obtain ⟨hd, en, wd, A, D, t, r, rfl, _⟩ := h
  rfl
 obtain ⟨hd, en, wd, WA, D, t, r, rfl, S, ht, q⟩ := h
 have hu := zm7 hr
 have nd2 : (["_law_name", "_law_elder"] : List Str).Nodup := by decide +kernel
 have nd3 : (["_law_name", "_law_world_here"] : List Str).Nodup := by decide +kernel
 refine ⟨_, zb3 (zh1 (i := 3) (N' := ["_law_name", "_law_elder"]) (src := [none, none]) rfl ym0.nd rfl rfl ⟨rfl, by decide +kernel, by decide +kernel, rfl, rfl, rfl⟩
   (zh0 (zc9 hu (pv 1) zd5 (fun _ _ => rfl))) (g := gTup K 2 (zk1 (zf8 0) (zk1 (zf8 1) gNil))) (fun _ _ _ _ => zh4 (n := 2) rfl (zc1 (zc0 (i := 0) nd2 rfl (Or.inl rfl) (Or.inr rfl)) (zc1 (zc0 (i := 1) nd2 rfl (Or.inl rfl) (Or.inr rfl)) zg4)))
   (fun _ _ _ _ => zh3) (fun _ _ _ _ => pv 0))
  (zb3 (zh1 (i := 4) (N' := ["_law_name", "_law_world_here"]) (src := [none, some 1]) rfl ym0.nd rfl rfl ⟨rfl, by decide +kernel, by decide +kernel, rfl, rfl, rfl⟩
   (zh0 (pv 3)) (g := zf8 0) (fun _ _ _ _ => zc0 (i := 0) nd3 rfl (Or.inl rfl) (Or.inr rfl))
   (fun _ _ _ _ => zm5 (zc7 (show OpR _ _ (rIn K true) from zp3) (pv 0) (zc9 hu (pv 1) zd5 (fun _ _ => rfl)) rfl)) (fun _ _ _ _ => pv 0))
  (zb3 (zc3 (i := 5) ym0.nd rfl (Or.inl rfl) (zb8 GO hr rfl mO kO bO .nil zc6 (zb0 (pv 0) (zb0 (eI (zd7 (zb0 (pv 4) (zb0 (pv 4) (zb0 (pv 3) zb2)))) (zb8 GT hr rfl mT kT bT .nil zc6 (zb0 (pv 0) (zb0 zb6 zb2)))) zb2))))
  (zb3 (zc3 (i := 6) ym0.nd rfl (Or.inl rfl) (zb8 GG hr rfl mG kG bG .nil zc6 (zb0 (pv 0) (zb0 (pv 1) (zb0 (pv 2) zb2)))))
  (zb3 (zm9 hu (pv 2) (pv 6) (pv 5) rfl)
  (zb9 (zd4 (zf6 (zb0 zd5 (zb0 (pv 6) (zb0 (pv 5) zb2))))))))))
  , ?_⟩
 first | dsimp only [cxOf, Cx.nox] | skip
 have s1 : ∀ {n : Nat}, n <= 1000 -> n < sizeLine := fun h => zc2 h
 have hU : D.U.length = 9 := by unfold WD.U; rw [List.length_cons, List.length_append, S.ok.v4, S.ok.p4]
 have h12 := S.ok.l12
 obtain ⟨ts, t1, t2, t3⟩ := S.w.tree
 refine ⟨_, rfl, wd, _, rfl, S.w.g.1, WA.tree, rfl, ⟨_, SqL.of t1.2⟩, fun Dn hDn => ?_⟩
 refine zs1 (tr := D.tr) t1.2 t2 (fun j t x a b => (t3 j t x a b).2) hDn (by omega) fun H1 f1 hn1 => ?_
 have S1 := S.fr0 f1
 refine ⟨_, rfl, Dn, rfl, ⟨_, SqL.of hn1⟩, fun Ds hDs => ?_⟩
 have hnD : Dn ≠ Ds := zb4 hn1 hDs
 refine zj7 (xs := (D.tr.map (·.1)).map V.str) (fun i σ Hx => (∃ x, σ = [x, some (.ref wd)]) /\ FrS [] H1 Hx /\ Hx Ds = some (.lst ((((D.tr.map (·.1)).take i).filter fun x => decide (x ∉ D.late)).map V.str))) ⟨⟨_, rfl⟩, (FrS.refl).put hDs, zb1⟩ ?_ ?_ ?_
 ·rintro i σ Hx hi ⟨_, fr, _⟩
  exact SqL.of (fr _ _ (by trivial) hn1)
 ·rintro i x σ Hx hx ⟨⟨x0, rfl⟩, fr, hDx⟩
  obtain ⟨hi, _⟩ := List.getElem?_eq_some_iff.mp hx
  rw [lqm] at hi
  rw [List.getElem?_map, List.getElem?_eq_getElem hi] at hx
  cases hx
  have S2 := S1.fr0 fr
  have hi' := hi
  rw [lqm] at hi'
  have hlf : (((D.tr.map (·.1)).take i).filter fun x => decide (x ∉ D.late)).length <= 12 := by
   have := List.length_filter_le (fun x => decide (x ∉ D.late)) ((D.tr.map (·.1)).take i)
   rw [List.length_take, lqm] at this
   omega
  refine ⟨_, rfl, _, rfl, wd, _, rfl, S2.w.g.2.1, WA.late, _, rfl, .inl (SqL.of S2.w.late.2), rfl, zg7 _, _, rfl, ?_⟩
  have ef : ((D.tr.map (·.1)).take (i + 1)).filter (fun x => decide (x ∉ D.late)) = ((D.tr.map (·.1)).take i).filter (fun x => decide (x ∉ D.late)) ++ [(D.tr.map (·.1))[i]].filter (fun x => decide (x ∉ D.late)) := by
   rw [List.take_add_one, List.getElem?_eq_getElem hi, List.filter_append]; rfl
  rw [zn0]
  refine ite2 (fun c0 => ?_) (fun c0 => ?_)
  rotate_left
  ·have c : (D.tr.map (·.1))[i] ∈ D.late := by simpa using c0
   refine ⟨⟨_, rfl⟩, fr, ?_⟩
   rw [ef, List.filter_cons_of_neg (by simpa using c), List.filter_nil, List.append_nil]
   exact hDx
  ·have c : (D.tr.map (·.1))[i] ∉ D.late := by simpa using c0
   refine ⟨_, rfl, _, hDx, by rw [lqm]; exact s1 (by omega), ⟨_, rfl⟩, fr.put hDs, ?_⟩
   rw [zb1, ef, List.filter_cons_of_pos (by simpa using c), List.filter_nil, List.map_append]; rfl
 rintro σ H2 ⟨_, f2, hs2⟩
 rw [lqm, List.take_of_length_le (Nat.le_refl _)] at hs2
 have S2 := S1.fr0 f2
 have hn2 := f2 _ _ (by trivial) hn1
 obtain ⟨x1, hx1, hx1l⟩ := S.ok.soon
 have hsne : ((D.tr.map (·.1)).filter fun x => decide (x ∉ D.late)) ≠ [] := fun z => by
  have : x1 ∈ ((D.tr.map (·.1)).filter fun x => decide (x ∉ D.late)) := List.mem_filter.mpr ⟨hx1, by simp [hx1l]⟩
  rw [z] at this; cases this
 have hnne : D.tr.map (·.1) ≠ [] := fun z => by
  have : x1 ∈ D.tr.map (·.1) := hx1
  rw [z] at this; cases this
 have hlf : ((D.tr.map (·.1)).filter fun x => decide (x ∉ D.late)).length <= 12 := by
  have := List.length_filter_le (fun x => decide (x ∉ D.late)) (D.tr.map (·.1))
  rw [lqm] at this
  omega
 generalize hss : ((D.tr.map (·.1)).filter fun x => decide (x ∉ D.late)) = ss at hs2 hsne hlf
 have hsm : ∀ x ∈ ss, x ∈ D.names := fun x hx => by rw [← hss] at hx; exact (List.mem_filter.mp hx).1
 have fr02 : FrS (Ms hd en WA) H H2 := (f1.trans f2).mono (by trivial)
 refine ⟨_, rfl, _, rfl, _, rfl, _, rfl, by show 3 <= sizeLine; exact Nat.le_of_lt (s1 (by decide)), fun pc hpc => ?_⟩
 have S3 := S2.fr0 (FrS.new (S := []) (o := .lst [.ref Ds, .ref Ds, .ref Dn]) hpc)
 obtain ⟨d, m, hh⟩ := S3.hand
 refine ⟨_, rfl, hd, d, m, t, r, 3, rfl, hh, by omega, by decide, by decide, fun x d' m' t4 x0 x1 c e => ?_⟩
 have S4 := S3.setHand (r' := r) c
 have hph : pc ≠ hd := fun z => by have := hh.1; rw [z] at *; rw [zb1] at this; cases this
 have hsd : Ds ≠ hd := fun z => by have hh2 := hh.1; rw [zb5 (Ne.symm hph)] at hh2; exact zj0 hs2 ⟨hh2, hh.2⟩ z
 have hnd : Dn ≠ hd := fun z => by have hh2 := hh.1; rw [zb5 (Ne.symm hph)] at hh2; exact zj0 hn2 ⟨hh2, hh.2⟩ z
 have hsp : Ds ≠ pc := zb4 hs2 hpc
 have hnp : Dn ≠ pc := zb4 hn2 hpc
 have fr04 := (fr02.trans (FrS.new (o := .lst [.ref Ds, .ref Ds, .ref Dn]) hpc)).put' (a := hd) (o := hl d' m' t4 r) (by trivial)
 have go : ∀ (pz : Addr) (zs : List Str), pz ≠ hd -> pz ≠ pc -> H2 pz = some (.lst (zs.map V.str)) -> zs ≠ [] -> zs.length <= 12 -> (∀ x ∈ zs, x ∈ D.names) ->
   spOf K [.ref hd, .ref pz] (upd (upd H2 pc (.lst [.ref Ds, .ref Ds, .ref Dn])) hd (hl d' m' t4 r)) (fun v Hv => tSeq (tAsg (zm2 yn4 [] E0 (zc4 (tVar 0) (zc4 (tVar 1) (zc4 (tVar 2) tNil)))) (zf8 6)) (tSeq (sDPut (tVar 2) (tVar 6) (tVar 5)) (tRet (tTup (zc4 (tC (.str "make")) (zc4 (tVar 6) (zc4 (tVar 5) tNil)))))) ⟨fun _ H => Q .non H, Q, fun _ _ => False, fun _ _ => False⟩ [some (.ref hd), some (.ref wd), some (.ref en), some (.ref Dn), some (.ref Ds), some v, none] Hv) E0 := by
  intro pz zs h1 h2 hz hz0 hz12 hzm
  obtain ⟨d, m, hh⟩ := S4.hand
  refine ⟨hd, pz, d, m, t4, r, _, rfl, hh, by omega, h1, SqL.of (by rw [zb5 h1, zb5 h2]; exact hz), by simpa using hz0, by rw [lqm]; omega, fun y d5 m5 t5 hy c5 e5 => ?_⟩
  obtain ⟨z, hz', rfl⟩ := List.mem_map.mp hy
  have S5 := S4.setHand (r' := r) c5
  have fr05 := fr04.put' (a := hd) (o := hl d5 m5 t5 r) (by trivial)
  refine ⟨_, rfl, _, rfl, _, rfl, hd, en, wd, WA, D, t5, r, rfl, S5, by omega, fun x6 H6 t6 hx6 S6 f6 ht6 _ => ?_⟩
  obtain ⟨kv, hen, hk⟩ := S6.env
  refine ⟨_, rfl, _, rfl, _, rfl, en, _, rfl, DPut.k (k := (Sum.inr x6 : Key)) hen (s1 (by have := hk.len; omega)), ?_⟩
  have S7 := S6.setEnv (hk.put hx6 (.inr ⟨z, hzm z hz', rfl⟩))
  have fr07 := (fr05.trans f6).put' (a := en) (o := .dK (putK kv (Sum.inr x6) (V.str z))) (by trivial)
  refine ⟨_, rfl, _, rfl, by show 3 <= sizeLine; exact Nat.le_of_lt (s1 (by decide)), fun pr hpr => ?_⟩
  exact q pr _ t6 ⟨"make", _, zb1, by decide +kernel, by decide +kernel, by decide +kernel⟩ (S7.fr0 (FrS.new hpr)) (fr07.trans (FrS.new hpr)) (by omega)
 have hcs : x = 0 ∨ x = 1 ∨ x = 2 := by omega
 rcases hcs with rfl | rfl | rfl
 ·exact ⟨pc, _, _, .ref Ds, rfl, rfl, SqL.of (by rw [zb5 hph]; exact zb1), rfl, go Ds ss hsd hsp hs2 hsne hlf hsm⟩
 ·exact ⟨pc, _, _, .ref Ds, rfl, rfl, SqL.of (by rw [zb5 hph]; exact zb1), rfl, go Ds ss hsd hsp hs2 hsne hlf hsm⟩
 ·exact ⟨pc, _, _, .ref Dn, rfl, rfl, SqL.of (by rw [zb5 hph]; exact zb1), rfl, go Dn D.names hnd hnp hn2 hnne (by unfold WD.names; rw [lqm]; omega) (fun x hx => hx)⟩
end
end Gn
end
section
namespace Gn
open PySem L2
abbrev yw1 : Stmt := top 28
abbrev yb8 : Stmt := top 30
inductive xt9 (vs : List V) (H : Hp) (Q : VK) : Prop
 | mk (hd en wd : Addr) (A : WA) (D : WD) (t r : Int) (ab dd : Str) (h1 : vs = [.ref hd, .ref wd, .ref en, .str ab, .str dd]) (h2 : Sit H hd en wd A D t r) (h3 : t + 12 < 1000000) (h4 : ab ∈ D.names) (h5 : dd ∈ D.deeds) (h6 : ∀ (x : Addr) (ss : List Str) (H' : Hp) (t' : Int), H' x = some (.tup (ss.map V.str)) -> ss.length <= 1000 -> Sit H' hd en wd A D t' r -> FrS (Ms hd en A) H H' -> t' <= t + 12 -> Q (.ref x) H') : xt9  vs H Q
def xf8 : Sp := fun vs H Q _ => xt9  vs H Q
inductive xj9 (vs : List V) (H : Hp) (Q : VK) : Prop
 | mk (hd en wd : Addr) (A : WA) (D : WD) (t r : Int) (h1 : vs = [.ref hd, .ref wd, .ref en]) (h2 : Sit H hd en wd A D t r) (h3 : t + 7 < 1000000) (h4 : ∀ (x : Addr) (H' : Hp) (t' : Int), PlainR H' x -> Sit H' hd en wd A D t' r -> FrS (Ms hd en A) H H' -> t' <= t + 7 -> Q (.ref x) H') : xj9  vs H Q
def ym5 : Sp := fun vs H Q _ => xj9  vs H Q
theorem Sit.own {H H6 : Hp} {hd en wd : Addr} {A : WA} {D : WD} {t r t6 r6 : Int} {pa : Addr} {o : HO} (S : Sit H hd en wd A D t r) (S6 : Sit H6 hd en wd A D t6 r6) (f : FrS (Ms hd en A) H H6) (hpa : H pa = none) : Sit (upd H6 pa o) hd en wd A D t6 r6 /\ FrS (Ms hd en A) H (upd H6 pa o) := by
 have hpaM : pa ∉ Ms hd en A := S.notin hpa
 have u : ∀ b ∈ Ms hd en A, upd H6 pa o b = H6 b := fun b hb => zb5 (fun z => hpaM (by rw [← z]; exact hb))
 have fr : FrS (Ms hd en A) H (upd H6 pa o) := f.put hpa
 obtain ⟨⟨d, m, h1, h1'⟩, ⟨k1, e1, e1'⟩, ⟨k2, e2, e2'⟩, ⟨k3, e3, e3'⟩, w, nd, ok⟩ := S6
 exact ⟨⟨⟨d, m, (u _ (by trivial)).trans h1, h1'⟩, ⟨k1, (u _ (by trivial)).trans e1, e1'⟩, ⟨k2, (u _ (by trivial)).trans e2, e2'⟩, ⟨k3, (u _ (by trivial)).trans e3, e3'⟩, S.w.keep fr, nd, ok⟩, fr⟩
section
variable {P : Program} {w : World} {K : PySem.W.Frag} {mg : Str -> Option Value} {base : Heap} {f : Addr} {fd : FuncData}
abbrev nArgs : List Str := ["_law_hand_here", "_law_world_here", "_law_env", "_law_above", "_law_deed_here", "_law_args_here", "_law_kind", "_law_some"]
theorem yt1 : zd3 nArgs ["_law_hand_here", "_law_world_here", "_law_env", "_law_above", "_law_deed_here"] (zb7 yw1) := ⟨rfl, rfl, rfl, by decide +kernel, rfl, by decide +kernel, by decide +kernel⟩
theorem xx1 {k : Nat} (F : Fun K "_law_args" "_law_args" yw1 f fd) (T : Cal P w K mg base k "_law_take" ["_law_hand_here", "_law_many"] zh5) (O : Cal P w K mg base k "_law_of" ["_law_hand_here", "_law_some"] (spOf K))
  (V' : Cal P w K mg base k "_law_variable" ["_law_hand_here", "_law_world_here", "_law_env"] yj8) (L : Cal P w K mg base k "_law_line" ["_law_world_here", "_law_kind"] yg7) (mtu : mg "tuple" = none) :
  FnOk P w K mg base CX0 (k + 1) f fd ["_law_hand_here", "_law_world_here", "_law_env", "_law_above", "_law_deed_here"] xf8 := by
 obtain ⟨g, gd, GT, bT, kT, mT⟩ := T.ex
 obtain ⟨g2, gd2, GO, bO, kO, mO⟩ := O.ex
 obtain ⟨g3, gd3, GV, bV, kV', mV⟩ := V'.ex
 obtain ⟨g4, gd4, GL, bL, kL, mL⟩ := L.ex
 refine F.ok yt1 (fun vs H Q E h => ?_) (fun cdv A outer s H vs Q E hr h => ?_)
 ·obtain ⟨hd, en, wd, A, D, t, r, ab, dd, rfl, _⟩ := h
  rfl
 obtain ⟨hd, en, wd, WA, D, t, r, ab, dd, rfl, S, ht, hab, hdd, q⟩ := h
 have hu := zm7 hr
 have nd4 : (["_law_x", "_law_env", "_law_kind", "_law_world_here"] : List Str).Nodup := by decide +kernel
 refine ⟨_, zb3 (zc3 (i := 5) yt1.nd rfl (Or.inl rfl) (zd7 zb2))
  (zb3 (zg6 PassesOwn.never rfl (zh0 (zc9 hu (zc9 hu (pv 1) zd5 (fun _ _ => rfl)) (zf6 (zb0 (zc9 hu (zc9 hu (pv 1) zd5 (fun _ _ => rfl)) (pv 3) (fun _ _ => rfl)) (zb0 (pv 4) zb2))) (fun _ _ => rfl))) (zc0 (i := 6) yt1.nd rfl (Or.inr rfl))
   (zb3 (xj4 (zh1 (i := 7) (N' := ["_law_x", "_law_env", "_law_kind", "_law_world_here"]) (src := [none, some 2, some 6, some 1]) rfl yt1.nd rfl rfl ⟨rfl, by decide +kernel, by decide +kernel, rfl, rfl, rfl⟩
    (yc9 (pv 2)) (g := zf8 0) (fun _ _ _ _ => zc0 (i := 0) nd4 rfl (Or.inl rfl) (Or.inr rfl))
    (fun _ _ _ _ => zm5 (PW.pt (zn4 (zt7 (zz5 (zc9 hu (pv 1) (pv 0) (fun _ _ => rfl)))) (zk9 (zc7 (show OpR _ _ (rIn K false) from zg9) (pv 2) (zb8 GL hr rfl mL kL bL .nil zc6 (zb0 (pv 3) (zb0 (zc9 hu (pv 1) (pv 0) (fun _ _ => rfl)) zb2))) rfl))))) (fun _ _ _ _ => pv 0)))
   (zb9 (zh9 (PW.pt (zn4 (zc7 (yd4 (Nat.lt_of_succ_lt hu)) (pv 7) (zd7 zb2) (zd8 _)) (zk9 (zc7 yd3 (zb8 GT hr rfl mT kT bT .nil zc6 (zb0 (pv 0) (zb0 zb6 zb2))) zb6 (zd8 _)))))
    (zb9 (zg2 (zk6 PySem.F.plainAttrs_list PySem.F.slot_list_append PySem.F.type_list_append zf0 (pv 5) (zb0 (zb8 GO hr rfl mO kO bO .nil zc6 (zb0 (pv 0) (zb0 (pv 7) zb2))) zb2))))
    (zb9 (zg2 (zk6 PySem.F.plainAttrs_list PySem.F.slot_list_append PySem.F.type_list_append zf0 (pv 5) (zb0 (zb8 GV hr rfl mV kV' bV .nil zc6 (zb0 (pv 0) (zb0 (pv 1) (zb0 (pv 2) zb2)))) zb2))))))))
  (zb9 (zd4 (zd1 zc8 rfl mtu (by decide +kernel) (zb0 (pv 5) zb2))))), ?_⟩
 first | dsimp only [cxOf, Cx.nox] | skip
 have s1 : ∀ {n : Nat}, n <= 1000 -> n < sizeLine := fun h => zc2 h
 have hU : D.U.length = 9 := by unfold WD.U; rw [List.length_cons, List.length_append, S.ok.v4, S.ok.p4]
 refine ⟨Nat.zero_le _, fun pa hpa => ?_⟩
 have S1 := S.fr0 (FrS.new (S := []) (o := .lst []) hpa)
 obtain ⟨rt, wp, ws, e1, e2, e3, e4, e5⟩ := S.w.wl ab hab dd hdd
 refine ⟨_, rfl, wd, _, rfl, S1.w.g.2.2.2.1, _, rfl, wd, _, rfl, S1.w.g.2.2.2.2.2.2.2.2.2.2, _, rfl, WA.roots, _, rfl, .inl ⟨_, Sum.inr ab, .inl S1.w.roots.2, rfl, e1.symm⟩, _, rfl, by show 2 <= sizeLine; exact Nat.le_of_lt (s1 (by decide)), fun pk hpk => ?_⟩
 have S2 := S1.fr0 (FrS.new (S := []) (o := .tup [V.str rt, V.str dd]) hpk)
 have e3' := e3.keep ((FrS.new (o := .lst []) hpa).trans (FrS.new (o := .tup [V.str rt, V.str dd]) hpk))
 have hpk2 : upd (upd H pa (.lst [])) pk (.tup [V.str rt, V.str dd]) pa = some (.lst []) := by rw [zb5 (zb4 (o := .lst []) zb1 hpk)]; exact zb1
 refine ⟨WA.wants, .ref wp, rfl, .inr ⟨_, [Sum.inr rt, Sum.inr dd], pk, .inl S2.w.wants.2, rfl, zb1, e2.symm⟩, wp, rfl, ⟨_, SqL.of e3'.2⟩, ?_⟩
 have f02 : FrS (Ms hd en WA) H (upd (upd H pa (.lst [])) pk (.tup [V.str rt, V.str dd])) := (FrS.new hpa).trans (FrS.new hpk)
 generalize upd (upd H pa (.lst [])) pk (.tup [V.str rt, V.str dd]) = H2 at S2 e3' hpk2 f02
 have hpaM : pa ∉ Ms hd en WA := S.notin hpa
 refine zn1 (xs := ws.map V.str) (fun i σ Hx => ∃ (kx sx : Option V) (tx : Int) (xs : List Str), σ = [some (.ref hd), some (.ref wd), some (.ref en), some (.str ab), some (.str dd), some (.ref pa), kx, sx] /\ Sit Hx hd en wd WA D tx r /\ FrS (Ms hd en WA) H Hx /\ tx <= t + 3 * i /\ Hx pa = some (.lst (xs.map V.str)) /\ xs.length <= i) ⟨_, _, t, [], rfl, S2, f02, by omega, hpk2, by simp⟩ ?_ ?_ ?_
 ·rintro i σ Hx hi ⟨_, _, _, _, _, _, fr, _⟩
  exact SqL.of (e3.keep fr).2
 ·rintro i x σ Hx hx ⟨kx, sx, tx, xs, rfl, Sx, fr, htx, hpx, hxl⟩
  obtain ⟨hi, _⟩ := List.getElem?_eq_some_iff.mp hx
  rw [lqm] at hi
  rw [List.getElem?_map, List.getElem?_eq_getElem hi] at hx
  cases hx
  obtain ⟨kv, hen, hk⟩ := Sx.env
  have hkl := hk.len
  obtain ⟨us, eu, eul, _⟩ := hk.strs
  refine ⟨en, kv, hen, ?_⟩
  refine ⟨_, rfl, en, kv, rfl, hen, fun o Dl hDl => ?_⟩
  have hDe : Dl ≠ en := fun z => by rw [z, zb1] at hDl; cases hDl
  have hD0 : Hx Dl = none := by rw [zb5 hDe] at hDl; exact hDl
  refine yg6 (xs := kv.map fun p => kV p.1) (fun i' σ Hy => (∃ x, σ = [x, some (.ref en), some (.str ws[i]), some (.ref wd)]) /\ FrS [] (upd Hx en (.frz o (.dK kv))) Hy /\ ∃ ss : List Str, ss.length <= i' /\ Hy Dl = some (.lst (ss.map V.str))) ⟨⟨_, rfl⟩, (FrS.refl).put hDl, [], by simp, zb1⟩ ?_ ?_ ?_
  ·rintro i' σ Hy hi ⟨_, fr, _⟩
   exact fr _ _ (by trivial) zb1
  ·rintro i' x σ Hy hx ⟨⟨x0, rfl⟩, fry, ss, hs, hDy⟩
   have hx' := hx
   rw [eu] at hx
   obtain ⟨hi, _⟩ := List.getElem?_eq_some_iff.mp hx
   rw [lqm] at hi
   rw [List.getElem?_map, List.getElem?_eq_getElem hi] at hx
   cases hx
   have hin : (Sum.inr us[i'] : Key) ∈ kv.map (·.1) := by
    rw [List.getElem?_map] at hx'
    obtain ⟨p, hp, e⟩ := Option.map_eq_some_iff.mp hx'
    have : p.1 = Sum.inr us[i'] := by
     obtain ⟨y, _, ey⟩ := hk.ks p.1 (List.mem_map.mpr ⟨p, List.mem_of_getElem? hp, rfl⟩)
     rw [ey] at e ⊢
     cases e
     rfl
    exact List.mem_map.mpr ⟨p, List.mem_of_getElem? hp, this⟩
   obtain ⟨v, hv⟩ : ∃ v, valV kv (Sum.inr us[i']) = some v := by
    cases z : valV kv (Sum.inr us[i']) with
    | some v => exact ⟨v, rfl⟩
    | none => exact absurd hin (zv5 z)
   have hge : ∀ Hz, FrS [] (upd Hx en (.frz o (.dK kv))) Hz -> DGet Hz en (.str us[i']) (some v) := fun Hz fz => .inl ⟨kv, Sum.inr us[i'], .inr ⟨o, fz _ _ (by trivial) zb1⟩, rfl, hv.symm⟩
   refine ⟨_, rfl, _, rfl, en, v, rfl, hge _ fry, _, rfl, ?_⟩
   rcases hk.vs _ _ hv with rfl | ⟨n, hn, rfl⟩
   ·show if (!decide (V.non = V.non)) = true then _ else _
    rw [if_neg (by trivial)]
    exact ⟨⟨_, rfl⟩, fry, ss, by omega, hDy⟩
   ·show if (!decide (V.str n = V.non)) = true then _ else _
    rw [if_pos (by trivial)]
    obtain ⟨l, hl, hl12, _⟩ := xz2 S.ok hn
    have fr2 : FrS (Ms hd en WA) Hx Hy := fun b u n e => fry b u (by trivial) (by rw [zb5 (fun z => n (by rw [z]; simp))]; exact e)
    refine ⟨_, rfl, _, rfl, _, rfl, _, rfl, en, V.str n, rfl, hge _ fry, wd, _, WA, D, n, l, rfl, Sx.w.keep fr2, S.ok, hl, fun la Hz fz hla hlz => ?_⟩
    have hDla : Dl ≠ la := zb4 hDy hla
    have hDz := fz _ _ (by trivial) hDy
    refine ⟨la, _, rfl, .inl (SqL.of hlz), rfl, zg7 _, _, rfl, ?_⟩
    refine ite2 (fun c => ?_) (fun c => ?_)
    ·refine ⟨_, rfl, _, hDz, by rw [lqm]; exact s1 (by omega), ⟨_, rfl⟩, (fry.trans fz).put hDl, ss ++ [us[i']], ?_, ?_⟩
     ·rw [List.length_append, List.length_singleton]; omega
     ·rw [zb1, List.map_append]; rfl
    ·exact ⟨⟨_, rfl⟩, fry.trans fz, ss, by omega, hDz⟩
  ·rintro σ Hy ⟨_, fry, ss, hs, hDy⟩
   rw [lqm] at hs
   refine ⟨o, fry _ _ (by trivial) zb1, ?_⟩
   have f1 : FrS [] Hx (upd Hy en (.dK kv)) := FrS.thaw hen fry
   have S1 := Sx.fr0 f1
   have hD1 : upd Hy en (.dK kv) Dl = some (.lst (ss.map V.str)) := by rw [zb5 hDe]; exact hDy
   generalize upd Hy en (.dK kv) = H3 at f1 S1 hD1
   have hpa3 := f1 _ _ (by trivial) hpx
   refine ⟨_, rfl, Nat.zero_le _, fun pe hpe => ?_⟩
   have S4 := S1.fr0 (FrS.new (S := []) (o := .lst []) hpe)
   have hDp : Dl ≠ pe := zb4 hD1 hpe
   have hpa4 : upd H3 pe (.lst []) pa = some (.lst (xs.map V.str)) := by rw [zb5 (zb4 hpa3 hpe)]; exact hpa3
   have f4 : FrS (Ms hd en WA) H (upd H3 pe (.lst [])) := fr.trans ((f1.trans (FrS.new hpe)).mono (by trivial))
   have hD4 : upd H3 pe (.lst []) Dl = some (.lst (ss.map V.str)) := by rw [zb5 hDp]; exact hD1
   refine ⟨Dl, pe, _, rfl, rfl, hDp, SqL.of hD4, SqL.of zb1, _, rfl, ?_⟩
   have hel : ∀ (H5 : Hp) (t5 : Int), Sit H5 hd en wd WA D t5 r -> FrS (Ms hd en WA) H H5 -> t5 <= tx + 1 -> H5 pa = some (.lst (xs.map V.str)) -> yv4 (tBM K "list" zq1 (tVar 5) (zc4 (zm2 yj8 [] E0 (zc4 (tVar 0) (zc4 (tVar 1) (zc4 (tVar 2) tNil)))) tNil))
     ⟨fun σ Hx => ∃ (kx sx : Option V) (tx : Int) (xs : List Str), σ = [some (.ref hd), some (.ref wd), some (.ref en), some (.str ab), some (.str dd), some (.ref pa), kx, sx] /\ Sit Hx hd en wd WA D tx r /\ FrS (Ms hd en WA) H Hx /\ tx <= t + 3 * ((i + 1 : Nat) : Int) /\ Hx pa = some (.lst (xs.map V.str)) /\ xs.length <= i + 1, fun _ _ => False, fun _ _ => False, fun _ _ => False⟩ [some (.ref hd), some (.ref wd), some (.ref en), some (.str ab), some (.str dd), some (.ref pa), some (.str ws[i]), some (.ref Dl)] H5 := by
    intro H5 t5 S5 f5 ht5 hpa5
    refine ⟨_, rfl, .inl ⟨rfl, _, SqL.of hpa5⟩, _, rfl, _, rfl, _, rfl, hd, en, wd, WA, D, t5, r, rfl, S5, by omega, fun x H6 t6 S6 f6 ht6 _ => ?_⟩
    have hpa6 := f6 _ _ hpaM hpa5
    have S7 := Sit.own (o := .lst (xs.map V.str ++ [V.str x])) S S6 (f5.trans f6) hpa
    exact ⟨pa, _, _, rfl, rfl, hpa6, s1 (by rw [lqm]; omega), _, _, t6, xs ++ [x], rfl, S7.1, S7.2, by omega, by rw [zb1, List.map_append]; rfl, by rw [List.length_append, List.length_singleton]; omega⟩
   cases ss with
   | nil => exact hel _ tx S4 f4 (by omega) hpa4
   | cons y ys =>
    obtain ⟨d, m, hh⟩ := S4.hand
    refine ⟨_, rfl, hd, d, m, tx, r, 4, rfl, hh, by omega, by decide, by decide, fun x d' m' t5 x0 x1 c e => ⟨_, _, rfl, rfl, _, rfl, ?_⟩⟩
    have S5 := S4.setHand (r' := r) c
    have f5 := f4.put' (a := hd) (o := hl d' m' t5 r) (by trivial)
    have hDh : Dl ≠ hd := zj0 (ss := y :: ys) hD4 hh
    have hph : pa ≠ hd := fun z => hpaM (by rw [z]; simp)
    have hpa5 : upd (upd H3 pe (.lst [])) hd (hl d' m' t5 r) pa = some (.lst (xs.map V.str)) := by rw [zb5 hph]; exact hpa4
    refine ite2 (fun c => ?_) (fun c => ?_)
    ·obtain ⟨d, m, hh⟩ := S5.hand
     refine ⟨_, rfl, .inl ⟨rfl, _, SqL.of hpa5⟩, _, rfl, _, rfl, hd, Dl, d, m, t5, r, _, rfl, hh, by omega, hDh, SqL.of (by rw [zb5 hDh]; exact hD4), by simp, by rw [lqm]; omega, fun x d' m' t' hx c e => ?_⟩
     obtain ⟨x, _, rfl⟩ := List.mem_map.mp hx
     have S7 := Sit.own (o := .lst (xs.map V.str ++ [V.str x])) S (S5.setHand (r' := r) c) (f5.put' (a := hd) (o := hl d' m' t' r) (by trivial)) hpa
     exact ⟨pa, _, _, rfl, rfl, by rw [zb5 hph]; exact hpa5, s1 (by rw [lqm]; omega), _, _, t', xs ++ [x], rfl, S7.1, S7.2, by omega, by rw [zb1, List.map_append]; rfl, by rw [List.length_append, List.length_singleton]; omega⟩
    ·exact hel _ t5 S5 f5 e hpa5
 ·rintro σ Hx ⟨kx, sx, tx, xs, rfl, Sx, fr, htx, hpx, hxl⟩
  rw [lqm] at htx hxl
  refine ⟨_, rfl, pa, _, rfl, .inl ⟨SqL.of hpx, fun l hl => ?_⟩⟩
  exact q l xs _ tx zb1 (by omega) (Sx.fr0 (FrS.new hl)) (fr.trans (FrS.new hl)) (by omega)
abbrev nField : List Str := ["_law_hand_here", "_law_world_here", "_law_env", "_law_x", "_law_y", "_law_field_here", "_law_z"]
theorem yf9 : zd3 nField ["_law_hand_here", "_law_world_here", "_law_env"] (zb7 yb8) := ⟨rfl, rfl, rfl, by decide +kernel, rfl, by decide +kernel, by decide +kernel⟩
theorem xk9 {k : Nat} (F : Fun K "_law_field" "_law_field" yb8 f fd) (T : Cal P w K mg base k "_law_take" ["_law_hand_here", "_law_many"] zh5) (O : Cal P w K mg base k "_law_of" ["_law_hand_here", "_law_some"] (spOf K))
  (V' : Cal P w K mg base k "_law_variable" ["_law_hand_here", "_law_world_here", "_law_env"] yj8) (G : Cal P w K mg base k "_law_target" ["_law_hand_here", "_law_world_here", "_law_env"] yn4) :
  FnOk P w K mg base CX0 (k + 1) f fd ["_law_hand_here", "_law_world_here", "_law_env"] ym5 := by
 obtain ⟨g, gd, GT, bT, kT, mT⟩ := T.ex
 obtain ⟨g2, gd2, GO, bO, kO, mO⟩ := O.ex
 obtain ⟨g3, gd3, GV, bV, kV', mV⟩ := V'.ex
 obtain ⟨g4, gd4, GG, bG, kG, mG⟩ := G.ex
 refine F.ok yf9 (fun vs H Q E h => ?_) (fun cdv A outer s H vs Q E hr h => ?_)
 ·obtain ⟨hd, en, wd, A, D, t, r, rfl, _⟩ := h
  rfl
 obtain ⟨hd, en, wd, WA, D, t, r, rfl, S, ht, q⟩ := h
 have hu := zm7 hr
 refine ⟨_, zb3 (ps_par (i := 3) (j := 4) rfl yf9.nd rfl rfl (by decide) rfl rfl (zb0 (zb8 GV hr rfl mV kV' bV .nil zc6 (zb0 (pv 0) (zb0 (pv 1) (zb0 (pv 2) zb2)))) (zb0 (zb8 GV hr rfl mV kV' bV .nil zc6 (zb0 (pv 0) (zb0 (pv 1) (zb0 (pv 2) zb2)))) zb2)) rfl)
  (zb3 (zc3 (i := 5) yf9.nd rfl (Or.inl rfl) (zb8 GO hr rfl mO kO bO .nil zc6 (zb0 (pv 0) (zb0 (zc9 hu (pv 1) zd5 (fun _ _ => rfl)) zb2))))
  (zb3 (zh9 (zc7 zp1 (zb8 GT hr rfl mT kT bT .nil zc6 (zb0 (pv 0) (zb0 zb6 zb2))) zb6 (zd8 _))
   (zb3 (zm9 hu (zc9 hu (pv 1) zd5 (fun _ _ => rfl)) (pv 5) (zq7 hu (pv 2) (pv 4) ⟨rfl, rfl, rfl, rfl⟩) rfl)
    (zb9 (zd4 (zf6 (zb0 zd5 (zb0 (pv 3) (zb0 (pv 5) (zb0 (pv 4) zb2)))))))) zd9)
  (zb3 (zc3 (i := 6) yf9.nd rfl (Or.inl rfl) (zb8 GG hr rfl mG kG bG .nil zc6 (zb0 (pv 0) (zb0 (pv 1) (zb0 (pv 2) zb2)))))
  (zb3 (zm9 hu (pv 2) (pv 6) (zq7 hu (zc9 hu (pv 1) zd5 (fun _ _ => rfl)) (pv 5) ⟨rfl, rfl, rfl, rfl⟩) rfl)
  (zb9 (zd4 (zf6 (zb0 zd5 (zb0 (pv 6) (zb0 (pv 4) (zb0 (pv 5) zb2))))))))))), ?_⟩
 first | dsimp only [cxOf, Cx.nox] | skip
 have s1 : ∀ {n : Nat}, n <= 1000 -> n < sizeLine := fun h => zc2 h
 have hU : D.U.length = 9 := by unfold WD.U; rw [List.length_cons, List.length_append, S.ok.v4, S.ok.p4]
 have hf3 := S.ok.f3
 refine ⟨_, rfl, _, rfl, _, rfl, hd, en, wd, WA, D, t, r, rfl, S, by omega, fun x1 H1 t1 S1 f1 ht1 _ => ?_⟩
 refine ⟨_, rfl, _, rfl, _, rfl, hd, en, wd, WA, D, t1, r, rfl, S1, by omega, fun x2 H2 t2 S2 f2 ht2 _ => ⟨_, _, rfl, ?_⟩⟩
 obtain ⟨d, m, hh⟩ := S2.hand
 refine ⟨_, rfl, _, rfl, wd, _, rfl, S2.w.g.2.2.2.2.2.2.2.1, hd, WA.fields, d, m, t2, r, _, rfl, hh, by omega, zj0 S2.w.fields.2 hh, SqL.of S2.w.fields.2, ?_, by rw [lqm]; omega, fun x d3 m3 t3 hx c3 e3 => ?_⟩
 ·intro z; have := congrArg List.length z; rw [lqm, List.length_nil] at this; omega
 obtain ⟨fx, hfx, rfl⟩ := List.mem_map.mp hx
 have S3 := S2.setHand (r' := r) c3
 have fr3 := (f1.trans f2).put' (a := hd) (o := hl d3 m3 t3 r) (by trivial)
 obtain ⟨d, m, hh⟩ := S3.hand
 refine ⟨_, rfl, hd, d, m, t3, r, 2, rfl, hh, by omega, by decide, by decide, fun x d4 m4 t4 x0 x1 c4 e4 => ⟨rfl, _, rfl, ?_⟩⟩
 have S4 := S3.setHand (r' := r) c4
 have fr4 := fr3.put' (a := hd) (o := hl d4 m4 t4 r) (by trivial)
 obtain ⟨kv, hen, hk⟩ := S4.env
 obtain ⟨kh, hhe, hkh⟩ := S4.held
 refine ite2 (fun c => ?_) (fun c => ?_)
 ·refine ⟨_, rfl, en, rfl, .inl ⟨_, .inl hen⟩, _, rfl, _, DGet.k (k := (Sum.inr x2 : Key)) hen, _, rfl, wd, _, rfl, S4.w.g.2.2.2.2.2.2.2.2.2.1, _, rfl, WA.held, _, rfl, DPut.k (k := (Sum.inr fx : Key)) hhe (s1 (by have := hkh.len; omega)), ?_⟩
  have S5 := S4.setHeld (hkh.put hfx (hk.get (Sum.inr x2)))
  have fr5 := fr4.put' (a := WA.held) (o := .dK (putK kh (Sum.inr fx) ((valV kv (Sum.inr x2)).getD .non))) (by trivial)
  refine ⟨_, rfl, _, rfl, _, rfl, by show 4 <= sizeLine; exact Nat.le_of_lt (s1 (by decide)), fun pr hpr => ?_⟩
  exact q pr _ t4 ⟨"put", _, zb1, by decide +kernel, by decide +kernel, by decide +kernel⟩ (S5.fr0 (FrS.new hpr)) (fr5.trans (FrS.new hpr)) (by omega)
 ·refine ⟨_, rfl, _, rfl, _, rfl, hd, en, wd, WA, D, t4, r, rfl, S4, by omega, fun x5 H5 t5 hx5 S5 f5 ht5 _ => ?_⟩
  obtain ⟨kv, hen, hk⟩ := S5.env
  obtain ⟨kh, hhe, hkh⟩ := S5.held
  refine ⟨_, rfl, wd, _, rfl, S5.w.g.2.2.2.2.2.2.2.2.2.1, WA.held, rfl, .inl ⟨_, .inl hhe⟩, _, rfl, _, DGet.k (k := (Sum.inr fx : Key)) hhe, _, rfl, _, rfl, en, _, rfl, DPut.k (k := (Sum.inr x5 : Key)) hen (s1 (by have := hk.len; omega)), ?_⟩
  have S6 := S5.setEnv (hk.put hx5 (hkh.get (Sum.inr fx)))
  have fr6 := (fr4.trans f5).put' (a := en) (o := .dK (putK kv (Sum.inr x5) ((valV kh (Sum.inr fx)).getD .non))) (by trivial)
  refine ⟨_, rfl, _, rfl, _, rfl, by show 4 <= sizeLine; exact Nat.le_of_lt (s1 (by decide)), fun pr hpr => ?_⟩
  exact q pr _ t5 ⟨"take", _, zb1, by decide +kernel, by decide +kernel, by decide +kernel⟩ (S6.fr0 (FrS.new hpr)) (fr6.trans (FrS.new hpr)) (by omega)
end
end Gn
end
section
namespace Gn
open PySem L2
abbrev yx1 : Stmt := top 29
inductive xr1 (vs : List V) (H : Hp) (Q : VK) : Prop
 | mk (hd en wd : Addr) (A : WA) (D : WD) (t r lv : Int) (h1 : vs = [.ref hd, .ref wd, .ref en, .int lv]) (h2 : Sit H hd en wd A D t r) (h3 : t + 18 < 1000000) (h4 : ∀ (x : Addr) (H' : Hp) (t' : Int), Row1 H' x -> Sit H' hd en wd A D t' r -> FrS (Ms hd en A) H H' -> t' <= t + 18 -> Q (.ref x) H') : xr1  vs H Q
def yk5 : Sp := fun vs H Q _ => xr1  vs H Q
def Ws (D : WD) (H : Hp) (as : List Addr) : Prop := ∀ a ∈ as, ∃ o d, H a = some (.tup [.str o, .str d]) /\ o ∈ D.names /\ d ∈ D.deeds
theorem Ws.mono {D : WD} {H H' : Hp} {as : List Addr} (h : Ws D H as) (f : ∀ b xs, H b = some (.tup xs) -> H' b = some (.tup xs)) : Ws D H' as := fun a ha => by
 obtain ⟨o, d, e, r⟩ := h a ha
 exact ⟨o, d, f _ _ e, r⟩
theorem Ws.app {D : WD} {H : Hp} {as bs : List Addr} (h : Ws D H as) (h' : Ws D H bs) : Ws D H (as ++ bs) := fun a ha => (List.mem_append.mp ha).elim (h a) (h' a)
theorem yd5 {H : Hp} {p : Addr} {o : HO} {ys : List V} (hp : H p = some (.lst ys)) : ∀ b xs, H b = some (.tup xs) -> upd H p o b = some (.tup xs) := fun b xs h => by
 rw [zb5 (fun z => by rw [z, hp] at h; cases h)]; exact h
theorem xc7 (ds : List Str) (lo hi : Option Int) : ∃ ds' : List Str, cutV (ds.map V.str) lo hi = ds'.map V.str /\ ds'.length <= ds.length /\ ∀ x ∈ ds', x ∈ ds := by
 unfold cutV
 rw [← List.map_drop, ← List.map_take]
 refine ⟨_, rfl, ?_, fun x hx => List.mem_of_mem_drop (List.mem_of_mem_take hx)⟩
 rw [List.length_take, List.length_drop]
 omega
section
variable {P : Program} {w : World} {K : PySem.W.Frag} {mg : Str -> Option Value} {base : Heap} {f : Addr} {fd : FuncData}
abbrev nCall : List Str := ["_law_hand_here", "_law_world_here", "_law_env", "_law_level", "_law_y", "_law_kind", "_law_some", "_law_ways", "_law_deed_here", "_law_above", "_law_args_here", "_law_x"]
theorem zn3 : zd3 nCall ["_law_hand_here", "_law_world_here", "_law_env", "_law_level"] (zb7 yx1) := ⟨rfl, rfl, rfl, by decide +kernel, rfl, by decide +kernel, by decide +kernel⟩
theorem xz6 {k : Nat} (F : Fun K "_law_call" "_law_call" yx1 f fd) (T : Cal P w K mg base k "_law_take" ["_law_hand_here", "_law_many"] zh5) (O : Cal P w K mg base k "_law_of" ["_law_hand_here", "_law_some"] (spOf K))
  (V' : Cal P w K mg base k "_law_variable" ["_law_hand_here", "_law_world_here", "_law_env"] yj8) (L : Cal P w K mg base k "_law_line" ["_law_world_here", "_law_kind"] yg7) (G : Cal P w K mg base k "_law_target" ["_law_hand_here", "_law_world_here", "_law_env"] yn4)
  (HS : Cal P w K mg base k "_law_has" ["_law_world_here", "_law_kind", "_law_deed_here"] xz3) (MK : Cal P w K mg base k "_law_make" ["_law_hand_here", "_law_world_here", "_law_env"] ys3) (AR : Cal P w K mg base k "_law_args" ["_law_hand_here", "_law_world_here", "_law_env", "_law_above", "_law_deed_here"] xf8) :
  FnOk P w K mg base CX0 (k + 1) f fd ["_law_hand_here", "_law_world_here", "_law_env", "_law_level"] yk5 := by
 obtain ⟨g, gd, GT, bT, kT, mT⟩ := T.ex
 obtain ⟨g2, gd2, GO, bO, kO, mO⟩ := O.ex
 obtain ⟨g3, gd3, GV, bV, kV', mV⟩ := V'.ex
 obtain ⟨g4, gd4, GL, bL, kL, mL⟩ := L.ex
 obtain ⟨g5, gd5, GG, bG, kG, mG⟩ := G.ex
 obtain ⟨g6, gd6, GH, bH, kH, mH⟩ := HS.ex
 obtain ⟨g7, gd7, GM, bM, kM, mM⟩ := MK.ex
 obtain ⟨g8, gd8, GA, bA, kA, mA⟩ := AR.ex
 refine F.ok zn3 (fun vs H Q E h => ?_) (fun cdv A outer s H vs Q E hr h => ?_)
 ·obtain ⟨hd, en, wd, A, D, t, r, lv, rfl, _⟩ := h
  rfl
 obtain ⟨hd, en, wd, WA, D, t, r, lv, rfl, S, ht, q⟩ := h
 have hu := zm7 hr
 have nd2 : (["_law_name", "_law_elder"] : List Str).Nodup := by decide +kernel
 have nd3 : (["_law_one", "_law_deed_here", "_law_world_here"] : List Str).Nodup := by decide +kernel
 refine ⟨_, zb3 (zc3 (i := 4) zn3.nd rfl (Or.inl rfl) (zb8 GV hr rfl mV kV' bV .nil zc6 (zb0 (pv 0) (zb0 (pv 1) (zb0 (pv 2) zb2)))))
  (zb3 (zc3 (i := 5) zn3.nd rfl (Or.inl rfl) (zq7 hu (pv 2) (pv 4) ⟨rfl, rfl, rfl, rfl⟩))
  (zb3 (zh9 (zt7 (ys4 (pv 5))) (zb9 (zc3 (i := 5) zn3.nd rfl (Or.inl rfl) (zb8 GO hr rfl mO kO bO .nil zc6 (zb0 (pv 0) (zb0 (zh8 (N' := ["_law_name", "_law_elder"]) (src := [none, none]) rfl ⟨rfl, by decide +kernel, by decide +kernel, rfl, rfl, rfl⟩
   (zh0 (zc9 hu (pv 1) zd5 (fun _ _ => rfl))) (g := gTup K 2 (zk1 (zf8 0) (zk1 (zf8 1) gNil))) (fun _ _ _ _ => zh4 (n := 2) rfl (zc1 (zc0 (i := 0) nd2 rfl (Or.inl rfl) (Or.inr rfl)) (zc1 (zc0 (i := 1) nd2 rfl (Or.inl rfl) (Or.inr rfl)) zg4)))
   (fun _ _ _ _ => zh3) (fun _ _ _ _ => pv 0)) zb2))))) zd9)
  (zb3 (zc3 (i := 6) zn3.nd rfl (Or.inl rfl) (zj8 zs6 (zc9 hu (pv 1) zd5 (fun _ _ => rfl)) (zk8 (zf7 zp4 (pv 3) zb6)) zm1))
  (zb3 (zh9 (zc7 zp1 (zb8 GT hr rfl mT kT bT .nil zc6 (zb0 (pv 0) (zb0 zb6 zb2))) zb6 (zd8 _)) (zb9 (zc3 (i := 6) zn3.nd rfl (Or.inl rfl) (zc9 hu (pv 1) zd5 (fun _ _ => rfl)))) zd9)
  (zb3 (zc3 (i := 7) zn3.nd rfl (Or.inl rfl) (zd7 zb2))
  (zb3 (zg6 PassesOwn.never rfl (zh0 (pv 6)) (zc0 (i := 8) zn3.nd rfl (Or.inr rfl))
   (zb9 (zg2 (zk6 PySem.F.plainAttrs_list PySem.F.slot_list_extend PySem.F.type_list_extend zx3 (pv 7) (zb0 (zh8 (N' := ["_law_one", "_law_deed_here", "_law_world_here"]) (src := [none, some 8, some 1]) rfl ⟨rfl, by decide +kernel, by decide +kernel, rfl, rfl, rfl⟩
    (zh0 (zb8 GL hr rfl mL kL bL .nil zc6 (zb0 (pv 1) (zb0 (pv 5) zb2)))) (g := zf8 0) (fun _ _ _ _ => zc0 (i := 0) nd3 rfl (Or.inl rfl) (Or.inr rfl))
    (fun _ _ _ _ => zm5 (zt6 (zb8 GH hr rfl mH kH bH .nil zc6 (zb0 (pv 2) (zb0 (pv 0) (zb0 (pv 1) zb2)))))) (fun _ _ _ _ => zf6 (zb0 (pv 0) (zb0 (pv 1) zb2)))) zb2)))))
  (zb3 (zh9 (zc7 (ys2 (Nat.lt_of_succ_lt hu)) (pv 7) (zd7 zb2) (zd8 _)) (zb9 (zd4 (zb8 GM hr rfl mM kM bM .nil zc6 (zb0 (pv 0) (zb0 (pv 1) (zb0 (pv 2) zb2)))))) zd9)
  (zb3 (zt0 (zb8 GO hr rfl mO kO bO .nil zc6 (zb0 (pv 0) (zb0 (pv 7) zb2))) (zh4 (n := 2) rfl (zc1 (zc0 (i := 9) zn3.nd rfl (Or.inl rfl)) (zc1 (zc0 (i := 8) zn3.nd rfl (Or.inr rfl)) zg4))))
  (zb3 (zc3 (i := 10) zn3.nd rfl (Or.inl rfl) (zb8 GA hr rfl mA kA bA .nil zc6 (zb0 (pv 0) (zb0 (pv 1) (zb0 (pv 2) (zb0 (pv 9) (zb0 (pv 8) zb2)))))))
  (zb3 (zc3 (i := 11) zn3.nd rfl (Or.inl rfl) (zb8 GG hr rfl mG kG bG .nil zc6 (zb0 (pv 0) (zb0 (pv 1) (zb0 (pv 2) zb2)))))
  (zb3 (zm9 hu (pv 2) (pv 11) (zq7 hu (zc9 hu (pv 1) zd5 (fun _ _ => rfl)) (pv 8) ⟨rfl, rfl, rfl, rfl⟩) rfl)
  (zb9 (zd4 (zf6 (zb0 zd5 (zb0 (pv 11) (zb0 (pv 4) (zb0 (pv 9) (zb0 (pv 8) (zb0 (pv 10) zb2)))))))))))))))))))), ?_⟩
 first | dsimp only [cxOf, Cx.nox] | skip
 have s1 : ∀ {n : Nat}, n <= 1000 -> n < sizeLine := fun h => zc2 h
 have hU : D.U.length = 9 := by unfold WD.U; rw [List.length_cons, List.length_append, S.ok.v4, S.ok.p4]
 have h12 := S.ok.l12
 have h6 := S.ok.d6
 refine ⟨_, rfl, _, rfl, _, rfl, hd, en, wd, WA, D, t, r, rfl, S, by omega, fun y1 H1 t1 S1 f1 ht1 _ => ?_⟩
 obtain ⟨kv, hen, hk⟩ := S1.env
 refine ⟨_, rfl, en, rfl, .inl ⟨_, .inl hen⟩, _, rfl, _, DGet.k (k := (Sum.inr y1 : Key)) hen, ?_⟩
 have hkd := hk.get (Sum.inr y1)
 generalize (valV kv (Sum.inr y1)).getD .non = vk at hkd
 have st3 : ∀ (nx : St -> Hp -> Prop), (∀ (n : Str) (H2 : Hp) (t2 : Int), n ∈ D.names -> Sit H2 hd en wd WA D t2 r -> FrS (Ms hd en WA) H H2 -> t2 <= t + 3 -> nx [some (.ref hd), some (.ref wd), some (.ref en), some (.int lv), some (.str y1), some (.str n), none, none, none, none, none, none] H2) ->
   tIfS (tB (tIsN (tVar 5))) (tAsg (zm2 (spOf K) [] E0 (zc4 (tVar 0) (zc4 (xp3 (iList K (yt9 (tVar 1) (tC (.str "tree")))) [none, none] (gTup K 2 (zk1 (zf8 0) (zk1 (zf8 1) gNil))) tAll (tVar 0)) tNil))) (zf8 5)) ym7 ⟨nx, Q, fun _ _ => False, fun _ _ => False⟩ [some (.ref hd), some (.ref wd), some (.ref en), some (.int lv), some (.str y1), some vk, none, none, none, none, none, none] H1 := by
  intro nx hnx
  refine ⟨_, rfl, _, rfl, ?_⟩
  rcases hkd with rfl | ⟨n, hn, rfl⟩
  ·show if (decide (V.non = V.non)) = true then _ else _
   rw [if_pos (by trivial)]
   obtain ⟨ts, t1', t2', t3'⟩ := S1.w.tree
   refine ⟨_, rfl, _, rfl, wd, _, rfl, S1.w.g.1, WA.tree, rfl, ⟨_, SqL.of t1'.2⟩, fun Dn hDn => ?_⟩
   refine zs1 (tr := D.tr) t1'.2 t2' (fun j t x a b => (t3' j t x a b).2) hDn (by omega) fun H2 f2 hn2 => ?_
   have S2 := S1.fr0 f2
   obtain ⟨d, m, hh⟩ := S2.hand
   refine ⟨hd, Dn, d, m, t1, r, _, rfl, hh, by omega, zj0 hn2 hh, SqL.of hn2, ?_, by rw [lqm, lqm]; omega, fun x d3 m3 t3 hx c3 e3 => ?_⟩
   ·intro z
    have := congrArg List.length z
    rw [lqm, lqm, List.length_nil] at this
    exact S.ok.l1 (List.length_eq_zero_iff.mp this)
   ·obtain ⟨n, hn, rfl⟩ := List.mem_map.mp hx
    exact hnx n _ t3 hn (S2.setHand c3) ((f1.trans (f2.mono (by trivial))).put' (by trivial)) (by omega)
  ·show if (decide (V.str n = V.non)) = true then _ else _
   rw [if_neg (by trivial)]
   exact hnx n H1 t1 hn S1 f1 (by omega)
 refine st3 _ fun n H2 t2 hn S2 f2 ht2 => ?_
 refine ⟨_, rfl, wd, _, rfl, S2.w.g.2.2.1, _, rfl, lv, 1, rfl, rfl, _, rfl, WA.deeds, _, rfl, SqL.of S2.w.deeds.2, fun ps hps => ?_⟩
 obtain ⟨ds, ed, edl, edm⟩ := xc7 D.deeds (some (lv + 1)) none
 rw [ed]
 have S3 := S2.fr0 (FrS.new (S := []) (o := .lst (ds.map V.str)) hps)
 have f3 : FrS (Ms hd en WA) H (upd H2 ps (.lst (ds.map V.str))) := f2.trans (FrS.new hps)
 have hps3 : Stt (Ms hd en WA) (upd H2 ps (.lst (ds.map V.str))) ps (.lst (ds.map V.str)) := ⟨S2.notin hps, zb1⟩
 generalize upd H2 ps (.lst (ds.map V.str)) = H3 at S3 f3 hps3
 have st5 : ∀ (nx : St -> Hp -> Prop), (∀ (pz : Addr) (zs : List Str) (H4 : Hp) (t4 : Int), Stt (Ms hd en WA) H4 pz (.lst (zs.map V.str)) -> zs.length <= 6 -> (∀ x ∈ zs, x ∈ D.deeds) -> Sit H4 hd en wd WA D t4 r -> FrS (Ms hd en WA) H H4 -> t4 <= t + 4 -> nx [some (.ref hd), some (.ref wd), some (.ref en), some (.int lv), some (.str y1), some (.str n), some (.ref pz), none, none, none, none, none] H4) ->
   tIfS (zm4 (tOp rEq (zm2 zh5 [] E0 (zc4 (tVar 0) (zc4 (tC (.int 8)) tNil))) (tC (.int 0)))) (tAsg (yt9 (tVar 1) (tC (.str "deeds"))) (zf8 6)) ym7 ⟨nx, Q, fun _ _ => False, fun _ _ => False⟩ [some (.ref hd), some (.ref wd), some (.ref en), some (.int lv), some (.str y1), some (.str n), some (.ref ps), none, none, none, none, none] H3 := by
  intro nx hnx
  obtain ⟨d, m, hh⟩ := S3.hand
  refine ⟨_, rfl, hd, d, m, t2, r, 8, rfl, hh, by omega, by decide, by decide, fun x d4 m4 t4 x0 x1 c4 e4 => ⟨rfl, _, rfl, ?_⟩⟩
  have S4 := S3.setHand (r' := r) c4
  have f4 := f3.put' (a := hd) (o := hl d4 m4 t4 r) (by trivial)
  refine ite2 (fun c => ?_) (fun c => ?_)
  ·exact ⟨_, rfl, wd, _, rfl, S4.w.g.2.2.1, hnx WA.deeds D.deeds _ t4 S4.w.deeds h6 (fun x hx => hx) S4 f4 (by omega)⟩
  ·exact hnx ps ds _ t4 (hps3.keep (FrS.chg (by trivial))) (by omega) edm S4 f4 (by omega)
 refine st5 _ fun pz zs H4 t4 hz hz6 hzm S4 f4 ht4 => ?_
 refine ⟨Nat.zero_le _, fun pw hpw => ?_⟩
 have S5 := S4.fr0 (FrS.new (S := []) (o := .lst []) hpw)
 have hpwM : pw ∉ Ms hd en WA := S4.notin hpw
 have hpzw : pz ≠ pw := zb4 hz.2 hpw
 obtain ⟨l, hup, hl12, hlm⟩ := xz2 S.ok hn
 refine ⟨_, rfl, pz, rfl, ⟨_, SqL.of (by rw [zb5 hpzw]; exact hz.2)⟩, ?_⟩
 refine zn1 (xs := zs.map V.str) (fun i σ Hx => ∃ (dx : Option V) (as : List Addr), σ = [some (.ref hd), some (.ref wd), some (.ref en), some (.int lv), some (.str y1), some (.str n), some (.ref pz), some (.ref pw), dx, none, none, none] /\ Sit Hx hd en wd WA D t4 r /\ FrS (Ms hd en WA) H4 Hx /\ Hx pw = some (.lst (as.map V.ref)) /\ Ws D Hx as /\ as.length <= 12 * i) ⟨_, [], rfl, S5, FrS.new hpw, zb1, (fun a ha => nomatch ha), by simp⟩ ?_ ?_ ?_
 ·rintro i σ Hx hi ⟨_, _, _, _, fr, _⟩
  exact SqL.of (hz.keep fr).2
 ·rintro i x σ Hx hx ⟨dx, as, rfl, Sx, fr, hpx, hws, hasl⟩
  obtain ⟨hi, _⟩ := List.getElem?_eq_some_iff.mp hx
  rw [lqm] at hi
  rw [List.getElem?_map, List.getElem?_eq_getElem hi] at hx
  cases hx
  have hdd : zs[i] ∈ D.deeds := hzm _ (List.getElem_mem hi)
  refine ⟨_, rfl, .inl ⟨rfl, _, SqL.of hpx⟩, _, rfl, _, rfl, wd, _, WA, D, n, l, rfl, Sx.w, S.ok, hup, fun la Hy fy hla hly => ⟨la, rfl, ⟨_, SqL.of hly⟩, fun Dl hDl => ?_⟩⟩
  have Sy := Sx.fr0 fy
  have hpy := fy _ _ (by trivial) hpx
  have hwsy : Ws D Hy as := hws.mono fun b xs h => fy _ _ (by trivial) h
  refine zj7 (xs := l.map V.str) (fun i' σ Hz => (∃ x, σ = [x, some (.str zs[i]), some (.ref wd)]) /\ FrS [] Hy Hz /\ ∃ bs : List Addr, bs.length <= i' /\ Hz Dl = some (.lst (bs.map V.ref)) /\ Ws D Hz bs) ⟨⟨_, rfl⟩, (FrS.refl).put hDl, [], by simp, zb1, fun a ha => nomatch ha⟩ ?_ ?_ ?_
  ·rintro i' σ Hz hi ⟨_, fz, _⟩
   exact SqL.of (fz _ _ (by trivial) hly)
  ·rintro i' x σ Hz hx ⟨⟨x0, rfl⟩, fz, bs, hbl, hDz, hwz⟩
   obtain ⟨hi', _⟩ := List.getElem?_eq_some_iff.mp hx
   rw [lqm] at hi'
   rw [List.getElem?_map, List.getElem?_eq_getElem hi'] at hx
   cases hx
   have hon : l[i'] ∈ D.names := hlm _ (List.getElem_mem hi')
   refine ⟨_, rfl, _, rfl, _, rfl, wd, _, WA, D, l[i'], zs[i], rfl, (Sy.fr0 fz).w, S.ok, hon, hdd, fun b Hv fv => ⟨_, rfl, ?_⟩⟩
   have hDv := fv _ _ (by trivial) hDz
   have hwv : Ws D Hv bs := hwz.mono fun b xs h => fv _ _ (by trivial) h
   refine ite2 (fun c => ?_) (fun c => ?_)
   ·refine ⟨_, rfl, _, rfl, by show 2 <= sizeLine; exact Nat.le_of_lt (s1 (by decide)), fun tp htp => ?_⟩
    have hDt : Dl ≠ tp := zb4 hDv htp
    have hD6 : upd Hv tp (.tup [V.str l[i'], V.str zs[i]]) Dl = some (.lst (bs.map V.ref)) := by rw [zb5 hDt]; exact hDv
    refine ⟨_, hD6, by rw [lqm]; exact s1 (by omega), ⟨_, rfl⟩, ((fz.trans fv).trans (FrS.new htp)).put hDl, bs ++ [tp], ?_, ?_, ?_⟩
    ·rw [List.length_append, List.length_singleton]; omega
    ·rw [zb1, List.map_append]; rfl
    ·refine Ws.mono (H := upd Hv tp (.tup [V.str l[i'], V.str zs[i]])) (Ws.app (hwv.mono fun b xs h => ?_) fun a ha => ?_) (yd5 hD6)
     ·rw [zb5 (zb4 h htp)]; exact h
     ·rw [List.mem_singleton.mp ha]; exact ⟨_, _, zb1, hon, hdd⟩
   ·exact ⟨⟨_, rfl⟩, fz.trans fv, bs, by omega, hDv, hwv⟩
  ·rintro σ Hz ⟨_, fz, bs, hbl, hDz, hwz⟩
   rw [lqm] at hbl
   have hpz := fz _ _ (by trivial) hpy
   have Sz := Sy.fr0 fz
   have hwsz : Ws D Hz as := hwsy.mono fun b xs h => fz _ _ (by trivial) h
   have S7 := Sit.own (o := .lst (as.map V.ref ++ bs.map V.ref)) S4 Sz (fr.trans ((fy.trans fz).mono (by trivial))) hpw
   refine ⟨pw, Dl, _, _, rfl, rfl, hpz, hDz, by rw [lqm, lqm]; exact Nat.le_of_lt (s1 (by omega)), _, as ++ bs, rfl, S7.1, S7.2, by rw [zb1, List.map_append], (Ws.app hwsz hwz).mono (yd5 hpz), by rw [List.length_append]; omega⟩
 rintro σ H6 ⟨dx, as, rfl, S6, f6, hp6, hw6, hasl⟩
 rw [lqm] at hasl
 have f06 := f4.trans f6
 refine ⟨_, rfl, Nat.zero_le _, fun pe hpe => ?_⟩
 have S7 := S6.fr0 (FrS.new (S := []) (o := .lst []) hpe)
 have hpp : pw ≠ pe := zb4 hp6 hpe
 have f07 : FrS (Ms hd en WA) H (upd H6 pe (.lst [])) := f06.trans (FrS.new hpe)
 have hp7 : upd H6 pe (.lst []) pw = some (.lst (as.map V.ref)) := by rw [zb5 hpp]; exact hp6
 have hw7 : Ws D (upd H6 pe (.lst [])) as := hw6.mono fun b xs h => by rw [zb5 (zb4 h hpe)]; exact h
 refine ⟨pw, pe, _, rfl, rfl, hpp, SqL.of hp7, SqL.of zb1, _, rfl, ?_⟩
 generalize upd H6 pe (.lst []) = H7 at S7 f07 hp7 hw7
 cases as with
 | nil =>
  refine ⟨_, rfl, _, rfl, _, rfl, hd, en, wd, WA, D, t4, r, rfl, S7, by omega, fun x H8 t8 p8 S8 f8 ht8 => q x H8 t8 (.inl p8) S8 (f07.trans f8) (by omega)⟩
 | cons a0 as' =>
  obtain ⟨d, m, hh⟩ := S7.hand
  refine ⟨_, rfl, _, rfl, hd, pw, d, m, t4, r, _, rfl, hh, by omega, fun z => hpwM (by rw [z]; simp), SqL.of hp7, by simp, by rw [lqm]; omega, fun x d8 m8 t8 hx c8 e8 => ?_⟩
  obtain ⟨tp, htp, rfl⟩ := List.mem_map.mp hx
  obtain ⟨on, dn, e1, e2, e3⟩ := hw7 tp htp
  have S8 := S7.setHand (r' := r) c8
  have f8 := f07.put' (a := hd) (o := hl d8 m8 t8 r) (by trivial)
  have htd : tp ≠ hd := fun z => by have := hh.1; rw [← z, e1] at this; cases this
  refine ⟨tp, _, rfl, SqT.of (by rw [zb5 htd]; exact e1), rfl, _, _, rfl, _, _, rfl, rfl, ?_⟩
  refine ⟨_, rfl, _, rfl, _, rfl, _, rfl, _, rfl, hd, en, wd, WA, D, t8, r, on, dn, rfl, S8, by omega, e2, e3, fun x9 ss9 H9 t9 hg9 hl9 S9 f9 ht9 => ?_⟩
  refine ⟨_, rfl, _, rfl, _, rfl, hd, en, wd, WA, D, t9, r, rfl, S9, by omega, fun xa Ha ta hxa Sa fa hta _ => ?_⟩
  obtain ⟨kv, hen, hk⟩ := Sa.env
  obtain ⟨kt, hto, hkt⟩ := Sa.told
  refine ⟨_, rfl, wd, _, rfl, Sa.w.g.2.2.2.2.2.2.2.2.1, WA.told, rfl, .inl ⟨_, .inl hto⟩, _, rfl, _, DGet.k (k := (Sum.inr dn : Key)) hto, _, rfl, _, rfl, en, _, rfl, DPut.k (k := (Sum.inr xa : Key)) hen (s1 (by have := hk.len; omega)), ?_⟩
  have Sb := Sa.setEnv (hk.put hxa (hkt.get (Sum.inr dn)))
  have fb := ((f8.trans f9).trans fa).put' (a := en) (o := .dK (putK kv (Sum.inr xa) ((valV kt (Sum.inr dn)).getD .non))) (by trivial)
  refine ⟨_, rfl, _, rfl, _, rfl, _, rfl, _, rfl, by show 6 <= sizeLine; exact Nat.le_of_lt (s1 (by decide)), fun pr hpr => ?_⟩
  have tp9 : Tup H9 (upd (upd Ha en (.dK (putK kv (Sum.inr xa) ((valV kt (Sum.inr dn)).getD .non)))) pr (.tup [V.str "call", V.str xa, V.str y1, V.str on, V.str dn, V.ref x9])) := ((S9.tup fa).trans (Sa.tup (FrS.chg (.tail _ (.head _))))).trans (Tup.new hpr)
  exact q pr _ ta (.inr ⟨xa, y1, on, dn, x9, ss9, zb1, tp9 _ _ hg9, hl9⟩) (Sb.fr0 (FrS.new hpr)) (fb.trans (FrS.new hpr)) (by omega)
end
end Gn
end
section
namespace Gn
open PySem L2
abbrev sRow : Stmt := top 31
abbrev yp0 : Stmt := top 32
abbrev pRow : List Str := ["_law_hand_here", "_law_world_here", "_law_env", "_law_level", "_law_deep"]
abbrev zz9 : List Str := ["_law_hand_here", "_law_world_here", "_law_env", "_law_level", "_law_deep", "_law_most"]
inductive SpRow (n : Nat) (vs : List V) (H : Hp) (Q : VK) : Prop
 | mk (hd en wd : Addr) (A : WA) (D : WD) (t r lv : Int) (dp : Nat) (h1 : vs = [.ref hd, .ref wd, .ref en, .int lv, .int (dp : Int)]) (h2 : dp <= n) (h3 : Sit H hd en wd A D t r) (h4 : 0 <= r) (h5 : t + 25 * r + 24 < 1000000) (h6 : ∀ (x : Addr) (fs : List Addr) (H' : Hp) (t' r' : Int), Fl H' n [x] fs -> (fs.length : Int) + r' <= r + 1 -> Sit H' hd en wd A D t' r' -> FrS (Ms hd en A) H H' -> 0 <= r' -> r' <= r -> t' + 25 * r' <= t + 25 * r + 24 -> Q (.ref x) H') : SpRow n vs H Q
def xv9 (n : Nat) : Sp := fun vs H Q _ => SpRow n vs H Q
inductive xr4 (n : Nat) (vs : List V) (H : Hp) (Q : VK) : Prop
 | mk (hd en wd : Addr) (A : WA) (D : WD) (t r lv mo : Int) (dp : Nat) (h1 : vs = [.ref hd, .ref wd, .ref en, .int lv, .int (dp : Int), .int mo]) (h2 : dp <= n) (h3 : 0 <= mo) (h4 : mo <= 100) (h5 : Sit H hd en wd A D t r) (h6 : 0 <= r) (h7 : t + 25 * r + 1 < 1000000) (h8 : ∀ (x : Addr) (rs fs : List Addr) (H' : Hp) (t' r' : Int), H' x = some (.tup (rs.map V.ref)) -> Fl H' n rs fs -> (fs.length : Int) + r' <= r -> Sit H' hd en wd A D t' r' -> FrS (Ms hd en A) H H' -> 0 <= r' -> r' <= r -> t' + 25 * r' <= t + 25 * r + 1 -> Q (.ref x) H') : xr4 n vs H Q
def zx2 (n : Nat) : Sp := fun vs H Q _ => xr4 n vs H Q
def zx6 : Nat -> Sp
 | 0 => fun _ _ _ _ => False
 | n + 1 => zx2 n
section
variable {P : Program} {w : World} {K : PySem.W.Frag} {mg : Str -> Option Value} {base : Heap} {f : Addr} {fd : FuncData}
abbrev nRow : List Str := ["_law_hand_here", "_law_world_here", "_law_env", "_law_level", "_law_deep", "_law_way", "_law_y", "_law_x", "_law_lots"]
theorem xg9 : zd3 nRow pRow (zb7 sRow) := ⟨rfl, rfl, rfl, by decide +kernel, rfl, by decide +kernel, by decide +kernel⟩
set_option maxHeartbeats 4000000 in
theorem ok_row {k n : Nat} (F : Fun K "_law_row" "_law_row" sRow f fd) (T : Cal P w K mg base k "_law_take" ["_law_hand_here", "_law_many"] zh5) (O : Cal P w K mg base k "_law_of" ["_law_hand_here", "_law_some"] (spOf K))
  (V' : Cal P w K mg base k "_law_variable" ["_law_hand_here", "_law_world_here", "_law_env"] yj8) (G : Cal P w K mg base k "_law_target" ["_law_hand_here", "_law_world_here", "_law_env"] yn4)
  (MK : Cal P w K mg base k "_law_make" ["_law_hand_here", "_law_world_here", "_law_env"] ys3) (FI : Cal P w K mg base k "_law_field" ["_law_hand_here", "_law_world_here", "_law_env"] ym5) (CA : Cal P w K mg base k "_law_call" ["_law_hand_here", "_law_world_here", "_law_env", "_law_level"] yk5)
  (R : Cal P w K mg base k "_law_rows" zz9 (zx6 n)) (mr : mg "range" = none) (ml : mg "len" = none) (mtu : mg "tuple" = none) :
  FnOk P w K mg base CX0 (k + 1) f fd pRow (xv9 n) := by
 obtain ⟨g, gd, GT, bT, kT, mT⟩ := T.ex
 obtain ⟨g2, gd2, GO, bO, kO, mO⟩ := O.ex
 obtain ⟨g3, gd3, GV, bV, kV', mV⟩ := V'.ex
 obtain ⟨g5, gd5, GG, bG, kG, mG⟩ := G.ex
 obtain ⟨g6, gd6, GF, bF, kF, mF⟩ := FI.ex
 obtain ⟨g7, gd7, GM, bM, kM, mM⟩ := MK.ex
 obtain ⟨g8, gd8, GC, bC, kC, mC⟩ := CA.ex
 obtain ⟨g9, gd9, GR, bR, kR, mR⟩ := R.ex
 refine F.ok xg9 (fun vs H Q E h => ?_) (fun cdv A outer s H vs Q E hr h => ?_)
 ·obtain ⟨hd, en, wd, A, D, t, r, lv, dp, rfl, _⟩ := h
  rfl
 obtain ⟨hd, en, wd, WA, D, t, r, lv, dp, rfl, hdp, S, hr0, ht, q⟩ := h
 have hu := zm7 hr
 have nd6 : (["_law_k", "_law_hand_here", "_law_world_here", "_law_env", "_law_level", "_law_deep"] : List Str).Nodup := by decide +kernel
 refine ⟨_, zb3 (zc3 (i := 5) xg9.nd rfl (Or.inl rfl) (zb8 GT hr rfl mT kT bT .nil zc6 (zb0 (pv 0) (zb0 zb6 zb2))))
  (zb3 (zh9 (zc7 xc0 (pv 5) zb6 (zd8 _)) (zb9 (zd4 (zb8 GM hr rfl mM kM bM .nil zc6 (zb0 (pv 0) (zb0 (pv 1) (zb0 (pv 2) zb2)))))) zd9)
  (zb3 (zh9 (zc7 zp1 (pv 5) zb6 (zd8 _))
   (zb3 (zc3 (i := 6) xg9.nd rfl (Or.inl rfl) (zb8 GV hr rfl mV kV' bV .nil zc6 (zb0 (pv 0) (zb0 (pv 1) (zb0 (pv 2) zb2)))))
   (zb3 (zc3 (i := 7) xg9.nd rfl (Or.inl rfl) (zb8 GG hr rfl mG kG bG .nil zc6 (zb0 (pv 0) (zb0 (pv 1) (zb0 (pv 2) zb2)))))
   (zb3 (zm9 hu (pv 2) (pv 7) (zq7 hu (pv 2) (pv 6) ⟨rfl, rfl, rfl, rfl⟩) rfl)
   (zb9 (zd4 (zf6 (zb0 zd5 (zb0 (pv 7) (zb0 (pv 6) zb2))))))))) zd9)
  (zb3 (zh9 (zc7 xc0 (pv 5) zb6 (zd8 _)) (zb9 (zd4 (zb8 GF hr rfl mF kF bF .nil zc6 (zb0 (pv 0) (zb0 (pv 1) (zb0 (pv 2) zb2)))))) zd9)
  (zb3 (zh9 (PW.pt (zn4 (zc7 zp1 (pv 5) zb6 (zd8 _)) (zk9 (zc7 (yd4 (Nat.lt_of_succ_lt hu)) (zc9 hu (pv 1) zd5 (fun _ _ => rfl)) (zd7 zb2) (zd8 _)))))
   (zb9 (zd4 (zf6 (zb0 zd5 (zb0 (zb8 GO hr rfl mO kO bO .nil zc6 (zb0 (pv 0) (zb0 (zc9 hu (pv 1) zd5 (fun _ _ => rfl)) zb2))) zb2))))) zd9)
  (zb3 (zh9 (PW.pt (yn2 (zc7 zp1 (pv 5) zb6 (zd8 _)) (zx9 (zc7 zp1 (pv 5) zb6 (zd8 _)))))
   (zb9 (zd4 (zf6 (zb0 zd5 (zb0 (zb8 GO hr rfl mO kO bO .nil zc6 (zb0 (pv 0) (zb0 (zc9 hu (pv 1) zd5 (fun _ _ => rfl)) zb2))) zb2))))) zd9)
  (zb3 (zh9 (PW.pt (zn4 (zc7 xc0 (pv 5) zb6 (zd8 _)) (zn4 (zc7 yd3 (pv 4) zb6 (zd8 _)) (zk9 (zc7 yd3 (eI (pv 0) zb6) zb6 (zd8 _))))))
   (zb3 (zh1 (i := 8) (N' := ["_law_k", "_law_hand_here", "_law_world_here", "_law_env", "_law_level", "_law_deep"]) (src := [none, some 0, some 1, some 2, some 3, some 4]) rfl xg9.nd rfl rfl ⟨rfl, by decide +kernel, by decide +kernel, rfl, rfl, rfl⟩
    (zk5 rfl mr (zb0 (zf7 zt8 zb6 (pv 5)) zb2)) (g := zf8 0) (fun _ _ _ _ => zc0 (i := 0) nd6 rfl (Or.inl rfl) (Or.inr rfl)) (fun _ _ _ _ => zh3)
    (fun _ _ _ _ => zb8 GR hr rfl mR kR bR .nil zc6 (zb0 (pv 1) (zb0 (pv 2) (zb0 (pv 3) (zb0 (pv 4) (zb0 (zf7 zt8 (pv 5) zb6) (zb0 zb6 zb2))))))))
   (zb9 (zd4 (zf7 xx6 (zf6 (zb0 (eI (zd7 (zb0 zd5 (zb0 zd5 zb2))) (zf7 zt8 (zd6 zf4 rfl ml PySem.boot_len (zb0 (pv 8) zb2)) zb6)) zb2)) (zd1 zc8 rfl mtu (by decide +kernel) (zb0 (pv 8) zb2)))))) zd9)
  (zb9 (zd4 (zb8 GC hr rfl mC kC bC .nil zc6 (zb0 (pv 0) (zb0 (pv 1) (zb0 (pv 2) (zb0 (pv 3) zb2))))))))))))), ?_⟩
 first | dsimp only [cxOf, Cx.nox] | skip
 have s1 : ∀ {n : Nat}, n <= 1000 -> n < sizeLine := fun h => zc2 h
 have hU : D.U.length = 9 := by unfold WD.U; rw [List.length_cons, List.length_append, S.ok.v4, S.ok.p4]
 have hf3 := S.ok.f3
 have hll := S.ok.lateLen
 obtain ⟨d, m, hh⟩ := S.hand
 refine ⟨_, rfl, hd, d, m, t, r, 14, rfl, hh, by omega, by decide, by decide, fun x d1 m1 t1 x0 x1 c1 e1 => ?_⟩
 have S1 := S.setHand (r' := r) c1
 have f1 : FrS (Ms hd en WA) H (upd H hd (hl d1 m1 t1 r)) := FrS.chg (by trivial)
 have hh1 : upd H hd (hl d1 m1 t1 r) hd = some (hl d1 m1 t1 r) := zb1
 generalize upd H hd (hl d1 m1 t1 r) = H1 at S1 f1 hh1
 refine ⟨_, rfl, _, _, rfl, rfl, _, rfl, ?_⟩
 refine ite2 (fun c => ?_) (fun c => ?_)
 ·exact ⟨_, rfl, _, rfl, _, rfl, hd, en, wd, WA, D, t1, r, rfl, S1, by omega, fun x H2 t2 p2 S2 f2 ht2 => q x [x] H2 t2 r (.one (.inl p2) .nil) (by show (1 : Int) + _ <= _; omega) S2 (f1.trans f2) hr0 (by omega) (by omega)⟩
 have n3 : ¬ x < 3 := fun z => c (decide_eq_true z)
 refine ⟨_, rfl, rfl, _, rfl, ?_⟩
 refine ite2 (fun c => ?_) (fun c => ?_)
 ·refine ⟨_, rfl, _, rfl, _, rfl, hd, en, wd, WA, D, t1, r, rfl, S1, by omega, fun y2 H2 t2 S2 f2 ht2 _ => ?_⟩
  refine ⟨_, rfl, _, rfl, _, rfl, hd, en, wd, WA, D, t2, r, rfl, S2, by omega, fun x3 H3 t3 hx3 S3 f3 ht3 _ => ?_⟩
  obtain ⟨kv, hen, hk⟩ := S3.env
  refine ⟨_, rfl, en, rfl, .inl ⟨_, .inl hen⟩, _, rfl, _, DGet.k (k := (Sum.inr y2 : Key)) hen, _, rfl, _, rfl, en, _, rfl, DPut.k (k := (Sum.inr x3 : Key)) hen (s1 (by have := hk.len; omega)), ?_⟩
  have S4 := S3.setEnv (hk.put hx3 (hk.get (Sum.inr y2)))
  have f4 := ((f1.trans f2).trans f3).put' (a := en) (o := .dK (putK kv (Sum.inr x3) ((valV kv (Sum.inr y2)).getD .non))) (by trivial)
  refine ⟨_, rfl, _, rfl, by show 3 <= sizeLine; exact Nat.le_of_lt (s1 (by decide)), fun pr hpr => ?_⟩
  exact q pr [pr] _ t3 r (.one (.inl ⟨"copy", _, zb1, by decide +kernel, by decide +kernel, by decide +kernel⟩) .nil) (by show (1 : Int) + _ <= _; omega) (S4.fr0 (FrS.new hpr)) (f4.trans (FrS.new hpr)) hr0 (by omega) (by omega)
 have n4 : x ≠ 3 := fun z => c (decide_eq_true (by rw [z]))
 refine ⟨_, rfl, _, _, rfl, rfl, _, rfl, ?_⟩
 refine ite2 (fun c => ?_) (fun c => ?_)
 ·exact ⟨_, rfl, _, rfl, _, rfl, hd, en, wd, WA, D, t1, r, rfl, S1, by omega, fun x H2 t2 p2 S2 f2 ht2 => q x [x] H2 t2 r (.one (.inl p2) .nil) (by show (1 : Int) + _ <= _; omega) S2 (f1.trans f2) hr0 (by omega) (by omega)⟩
 have n6 : ¬ x < 6 := fun z => c (decide_eq_true z)
 have rest : ∀ (H2 : Hp), Sit H2 hd en wd WA D t1 r -> FrS (Ms hd en WA) H H2 -> H2 hd = some (hl d1 m1 t1 r) ->
   tSeq (tIfS (tOr (zm4 (tOp rEq (tVar 5) (tC (.int 6)))) (zm4 (tOp rEq (tVar 5) (tC (.int 7))))) (tRet (tTup (zc4 (tC (.str "say")) (zc4 (zm2 (spOf K) [] E0 (zc4 (tVar 0) (zc4 (yt9 (tVar 1) (tC (.str "fields"))) tNil))) tNil)))) ym7)
   (tSeq (tIfS (tAnd (zm4 (tOp (rI0 fun i j => .bl (decide (i < j))) (tVar 5) (tC (.int 10)))) (tAnd (zm4 (tOp (rI0 fun i j => .bl (decide (j < i))) (tVar 4) (tC (.int 0)))) (zm4 (tOp (rI0 fun i j => .bl (decide (j < i))) (tOp (rIxL K) (tVar 0) (tC (.int 3))) (tC (.int 2))))))
    (tSeq (tAsg (xp3 (iRng1 (zc4 (tOp (rI0 fun i j => .int (i - j)) (tC (.int 10)) (tVar 5)) tNil)) [none, some 0, some 1, some 2, some 3, some 4] (zf8 0) tAll (zm2 (zx6 n) [] E0 (zc4 (tVar 1) (zc4 (tVar 2) (zc4 (tVar 3) (zc4 (tVar 4) (zc4 (tOp (rI0 fun i j => .int (i - j)) (tVar 5) (tC (.int 1))) (zc4 (tC (.int 3)) tNil)))))))) (zf8 8))
     (tRet (tOp (rCatT K) (tTup (zc4 (tOp (rIxL K) (tLst (zc4 (tC (.str "again")) (zc4 (tC (.str "either")) tNil))) (tOp (rI0 fun i j => .int (i - j)) (tCB (fun xs H Q => ∃ p ys, xs = [.ref p] /\ (SqL K H p ys ∨ SqT K H p ys) /\ Q (.int ys.length) H) (zc4 (tVar 8) tNil)) (tC (.int 1)))) tNil))
      (tCB (fun xs H Q => ∃ p ys, xs = [.ref p] /\ ((SqL K H p ys /\ ∀ l, H l = none -> Q (.ref l) (upd H l (.tup ys))) ∨ (SqT K H p ys /\ Q (.ref p) H))) (zc4 (tVar 8) tNil))))) ym7)
   (tRet (zm2 yk5 [] E0 (zc4 (tVar 0) (zc4 (tVar 1) (zc4 (tVar 2) (zc4 (tVar 3) tNil)))))))
   ⟨fun _ H => Q .non H, Q, fun _ _ => False, fun _ _ => False⟩ [some (.ref hd), some (.ref wd), some (.ref en), some (.int lv), some (.int (dp : Int)), some (.int x), none, none, none] H2 := by
  intro H2 S2 f2 hh2
  have say : tRet (tTup (zc4 (tC (.str "say")) (zc4 (zm2 (spOf K) [] E0 (zc4 (tVar 0) (zc4 (yt9 (tVar 1) (tC (.str "fields"))) tNil))) tNil))) ⟨fun _ H => Q .non H, Q, fun _ _ => False, fun _ _ => False⟩ [some (.ref hd), some (.ref wd), some (.ref en), some (.int lv), some (.int (dp : Int)), some (.int x), none, none, none] H2 := by
   obtain ⟨d, m, hh⟩ := S2.hand
   refine ⟨_, rfl, _, rfl, wd, _, rfl, S2.w.g.2.2.2.2.2.2.2.1, hd, WA.fields, d, m, t1, r, _, rfl, hh, by omega, zj0 S2.w.fields.2 hh, SqL.of S2.w.fields.2, ?_, by rw [lqm]; omega, fun x d3 m3 t3 hx c3 e3 => ?_⟩
   ·intro z; have := congrArg List.length z; rw [lqm, List.length_nil] at this; omega
   refine ⟨by show 2 <= sizeLine; exact Nat.le_of_lt (s1 (by decide)), fun pr hpr => ?_⟩
   exact q pr [pr] _ t3 r (.one (.inl ⟨"say", _, zb1, by decide +kernel, by decide +kernel, by decide +kernel⟩) .nil) (by show (1 : Int) + _ <= _; omega) ((S2.setHand c3).fr0 (FrS.new hpr)) ((f2.put' (by trivial)).trans (FrS.new hpr)) hr0 (by omega) (by omega)
  have cal : tRet (zm2 yk5 [] E0 (zc4 (tVar 0) (zc4 (tVar 1) (zc4 (tVar 2) (zc4 (tVar 3) tNil))))) ⟨fun _ H => Q .non H, Q, fun _ _ => False, fun _ _ => False⟩ [some (.ref hd), some (.ref wd), some (.ref en), some (.int lv), some (.int (dp : Int)), some (.int x), none, none, none] H2 :=
   ⟨_, rfl, _, rfl, _, rfl, _, rfl, hd, en, wd, WA, D, t1, r, lv, rfl, S2, by omega, fun x H3 t3 p3 S3 f3 ht3 => q x [x] H3 t3 r (.one p3 .nil) (by show (1 : Int) + _ <= _; omega) S3 (f2.trans f3) hr0 (by omega) (by omega)⟩
  refine ⟨_, rfl, rfl, _, rfl, ?_⟩
  refine ite2 (fun c => ?_) (fun c => ?_)
  ·exact say
  have nn6 : x ≠ 6 := fun z => c (decide_eq_true (by rw [z]))
  refine ⟨_, rfl, rfl, _, rfl, ?_⟩
  refine ite2 (fun c => ?_) (fun c => ?_)
  ·exact say
  have nn7 : x ≠ 7 := fun z => c (decide_eq_true (by rw [z]))
  refine ⟨_, rfl, _, _, rfl, rfl, _, rfl, ?_⟩
  refine ite2 (fun c => ?_) (fun c => cal)
  have n10 : x < 10 := of_decide_eq_true c
  refine ⟨_, rfl, _, _, rfl, rfl, _, rfl, ?_⟩
  refine ite2 (fun c => ?_) (fun c => cal)
  have ndp : (0 : Int) < (dp : Int) := of_decide_eq_true c
  refine ⟨_, rfl, hd, _, _, _, rfl, rfl, SqL.of hh2, at3, _, _, rfl, rfl, _, rfl, ?_⟩
  refine ite2 (fun c => ?_) (fun c => cal)
  have nr : (2 : Int) < r := of_decide_eq_true c
  obtain ⟨n', rfl⟩ : ∃ n', n = n' + 1 := ⟨n - 1, by omega⟩
  refine ⟨_, rfl, _, _, rfl, rfl, _, rfl, by omega, by omega, fun Dl hDl => ?_⟩
  have hDM : Dl ∉ Ms hd en WA := S2.notin hDl
  refine zw9 (lo := 0) (n := (10 - x).toNat) (fun i σ Hx => ∃ (kx : Option V) (tx rx : Int) (ls fs : List Addr), σ = [kx, some (.ref hd), some (.ref wd), some (.ref en), some (.int lv), some (.int (dp : Int))] /\ Sit Hx hd en wd WA D tx rx /\ FrS (Ms hd en WA) H2 Hx /\ 0 <= rx /\ rx <= r /\ tx + 25 * rx <= t1 + 25 * r + i /\ Hx Dl = some (.lst (ls.map V.ref)) /\ ls.length = i /\ Lots Hx n' ls fs /\ (fs.length : Int) + rx <= r)
   ⟨_, t1, r, [], [], rfl, S2.fr0 (FrS.new hDl), FrS.new hDl, hr0, by omega, by omega, zb1, rfl, .nil, by show (0 : Int) + r <= r; omega⟩ ?_ ?_
  ·rintro i σ Hx hi ⟨kx, tx, rx, ls, fs, rfl, Sx, fx, hx0, hx1, hx2, hDx, hxl, hlo, hfl⟩
   refine ⟨_, rfl, _, rfl, _, rfl, _, rfl, _, rfl, _, _, rfl, rfl, hd, en, wd, WA, D, tx, rx, lv, 3, dp - 1, ?_, by omega, by decide, by decide, Sx, hx0, by omega, fun v rsv fsv Hy ty ry hvy hfv hlv Sy fy hy0 hy1 hy2 => ?_⟩
   ·have : ((dp - 1 : Nat) : Int) = (dp : Int) - 1 := by omega
    rw [this]; rfl
   ·have hDy := fy _ _ hDM hDx
    have S7 := Sit.own (o := .lst (ls.map V.ref ++ [V.ref v])) S2 Sy (fx.trans fy) hDl
    have tpl : Tup Hy (upd Hy Dl (.lst (ls.map V.ref ++ [V.ref v]))) := Tup.lst hDy
    exact ⟨_, hDy, s1 (by rw [lqm]; omega), _, ty, ry, ls ++ [v], fs ++ fsv, rfl, S7.1, S7.2, hy0, by omega, by omega, by rw [zb1, List.map_append]; rfl, by rw [List.length_append, List.length_singleton]; omega, (hlo.keep ((Sx.tup fy).trans tpl)).snoc (tpl _ _ hvy) (hfv.keep tpl), by rw [List.length_append]; omega⟩
  ·rintro σ Hx ⟨kx, tx, rx, ls, fs, rfl, Sx, fx, hx0, hx1, hx2, hDx, hxl, hlo, hfl⟩
   have hj : ls.length = 1 ∨ ls.length = 2 := by omega
   refine ⟨by show 2 <= sizeLine; exact Nat.le_of_lt (s1 (by decide)), fun pl hpl => ?_⟩
   have hDp : Dl ≠ pl := zb4 hDx hpl
   have hat : ∃ v : Str, atI [V.str "again", V.str "either"] ((((ls.map V.ref).length : Nat) : Int) - 1) = some (.str v) /\ (ls.length = 1 /\ v = "again" ∨ ls.length = 2 /\ v = "either") := by
    rw [lqm]
    rcases hj with h | h
    ·exact ⟨"again", by rw [h]; rfl, .inl ⟨h, rfl⟩⟩
    ·exact ⟨"either", by rw [h]; rfl, .inr ⟨h, rfl⟩⟩
   obtain ⟨v, hv, hvw⟩ := hat
   refine ⟨_, rfl, Dl, _, rfl, .inl (SqL.of (by rw [zb5 hDp]; exact hDx)), _, _, rfl, rfl, pl, _, _, _, rfl, rfl, SqL.of zb1, hv, by show 1 <= sizeLine; exact Nat.le_of_lt (s1 (by decide)), fun pt hpt => ?_⟩
   have hDx2 : upd Hx pl (.lst [V.str "again", V.str "either"]) Dl = some (.lst (ls.map V.ref)) := by rw [zb5 hDp]; exact hDx
   have hDt : Dl ≠ pt := zb4 hDx2 hpt
   refine ⟨_, rfl, Dl, _, rfl, .inl ⟨SqL.of (by rw [zb5 hDt]; exact hDx2), fun pu hpu => ?_⟩⟩
   have htu : pt ≠ pu := fun z => by rw [← z, zb1] at hpu; cases hpu
   refine ⟨pt, pu, [.str v], ls.map V.ref, rfl, rfl, SqT.of (by rw [zb5 htu]; exact zb1), SqT.of zb1, by simp, by rw [lqm]; show 1 + ls.length <= sizeLine; exact Nat.le_of_lt (s1 (by omega)), fun z => ?_, fun _ pz hpz => ?_⟩
   ·have := congrArg List.length z; rw [lqm, List.length_nil] at this; omega
   ·have ff : FrS [] Hx _ := (((FrS.new (S := []) hpl).trans (FrS.new hpt)).trans (FrS.new hpu)).trans (FrS.new (o := .tup ([V.str v] ++ ls.map V.ref)) hpz)
    exact q pz (pz :: fs) _ tx rx ((hlo.keep (Tup.of0 ff)).row zb1 hvw) (by rw [List.length_cons]; omega) (Sx.fr0 ff) (f2.trans (fx.trans (ff.mono (by trivial)))) hx0 hx1 (by omega)
 refine ⟨_, rfl, rfl, _, rfl, ?_⟩
 refine ite2 (fun c => ?_) (fun c => rest H1 S1 f1 hh1)
 refine ⟨_, rfl, wd, _, rfl, S1.w.g.2.1, Nat.zero_le _, fun pe hpe => ?_⟩
 have S2 := S1.fr0 (FrS.new (S := []) (o := .lst []) hpe)
 have hlp : WA.late ≠ pe := zb4 S1.w.late.2 hpe
 refine ⟨WA.late, pe, _, rfl, rfl, hlp, SqL.of S2.w.late.2, SqL.of zb1, _, rfl, ?_⟩
 have f2 : FrS (Ms hd en WA) H (upd H1 pe (.lst [])) := f1.trans (FrS.new hpe)
 have hh2 : upd H1 pe (.lst []) hd = some (hl d1 m1 t1 r) := by rw [zb5 (zb4 hh1 hpe)]; exact hh1
 generalize upd H1 pe (.lst []) = H2 at S2 f2 hh2
 cases hla : D.late with
 | nil => exact rest H2 S2 f2 hh2
 | cons y ys =>
  have hlt := S2.w.late.2
  rw [hla] at hlt
  have hll' := hll
  rw [hla] at hll'
  obtain ⟨d, m, hh⟩ := S2.hand
  refine ⟨_, rfl, _, rfl, wd, _, rfl, S2.w.g.2.1, hd, WA.late, d, m, t1, r, _, rfl, hh, by omega, zj0 hlt hh, SqL.of hlt, by simp, by rw [lqm]; omega, fun x d3 m3 t3 hx c3 e3 => ?_⟩
  refine ⟨by show 2 <= sizeLine; exact Nat.le_of_lt (s1 (by decide)), fun pr hpr => ?_⟩
  exact q pr [pr] _ t3 r (.one (.inl ⟨"bring", _, zb1, by decide +kernel, by decide +kernel, by decide +kernel⟩) .nil) (by show (1 : Int) + _ <= _; omega) ((S2.setHand c3).fr0 (FrS.new hpr)) ((f2.put' (by trivial)).trans (FrS.new hpr)) hr0 (by omega) (by omega)
end
end Gn
end
section
namespace Gn
open PySem L2
section
variable {P : Program} {w : World} {K : PySem.W.Frag} {mg : Str -> Option Value} {base : Heap} {f : Addr} {fd : FuncData}
abbrev nRows : List Str := ["_law_hand_here", "_law_world_here", "_law_env", "_law_level", "_law_deep", "_law_most", "_law_rows_here", "_law_k"]
theorem yt8 : zd3 nRows zz9 (zb7 yp0) := ⟨rfl, rfl, rfl, by decide +kernel, rfl, by decide +kernel, by decide +kernel⟩
theorem yz9 {k n : Nat} (F : Fun K "_law_rows" "_law_rows" yp0 f fd) (T : Cal P w K mg base k "_law_take" ["_law_hand_here", "_law_many"] zh5) (R : Cal P w K mg base k "_law_row" pRow (xv9 n)) (mr : mg "range" = none) (mtu : mg "tuple" = none) :
  FnOk P w K mg base CX0 (k + 1) f fd zz9 (zx2 n) := by
 obtain ⟨g, gd, GT, bT, kT, mT⟩ := T.ex
 obtain ⟨g2, gd2, GR, bR, kR, mR⟩ := R.ex
 refine F.ok yt8 (fun vs H Q E h => ?_) (fun cdv A outer s H vs Q E hr h => ?_)
 ·obtain ⟨hd, en, wd, A, D, t, r, lv, mo, dp, rfl, _⟩ := h
  rfl
 obtain ⟨hd, en, wd, WA, D, t, r, lv, mo, dp, rfl, hdp, hm0, hm1, S, hr0, ht, q⟩ := h
 have hu := zm7 hr
 refine ⟨_, zb3 (zc3 (i := 6) yt8.nd rfl (Or.inl rfl) (zd7 zb2))
  (zb3 (zg6 PassesOwn.never rfl (zk5 rfl mr (zb0 (zb8 GT hr rfl mT kT bT .nil zc6 (zb0 (pv 0) (zb0 (zf7 zp4 (pv 5) zb6) zb2))) zb2)) (zc0 (i := 7) yt8.nd rfl (Or.inl rfl))
   (zb9 (zh9 (zc7 yd3 (eI (pv 0) zb6) zb6 (zd8 _))
    (zb3 (zt0 (zf7 zt8 (eI (pv 0) zb6) zb6) (yc8 (pv 0) zb6 zp8))
    (zb9 (zg2 (zk6 PySem.F.plainAttrs_list PySem.F.slot_list_append PySem.F.type_list_append zf0 (pv 6) (zb0 (zb8 GR hr rfl mR kR bR .nil zc6 (zb0 (pv 0) (zb0 (pv 1) (zb0 (pv 2) (zb0 (pv 3) (zb0 (pv 4) zb2)))))) zb2))))) zd9)))
  (zb9 (zd4 (zd1 zc8 rfl mtu (by decide +kernel) (zb0 (pv 6) zb2))))), ?_⟩
 first | dsimp only [cxOf, Cx.nox] | skip
 have s1 : ∀ {n : Nat}, n <= 1000 -> n < sizeLine := fun h => zc2 h
 refine ⟨Nat.zero_le _, fun pr hpr => ?_⟩
 have S1 := S.fr0 (FrS.new (S := []) (o := .lst []) hpr)
 have hpM : pr ∉ Ms hd en WA := S.notin hpr
 obtain ⟨d, m, hh⟩ := S1.hand
 refine ⟨_, rfl, _, rfl, _, _, rfl, rfl, hd, d, m, t, r, _, rfl, hh, by omega, by omega, by omega, fun x d1 m1 t1 x0 x1 c1 e1 => ?_⟩
 have S2 := S1.setHand (r' := r) c1
 have hph : pr ≠ hd := fun z => hpM (by rw [z]; simp)
 refine ⟨_, rfl, by omega, by omega, ?_⟩
 refine zn7 (lo := 0) (n := x.toNat) (fun i σ Hx => ∃ (kx : Option V) (tx rx : Int) (rs fs : List Addr), σ = [some (.ref hd), some (.ref wd), some (.ref en), some (.int lv), some (.int (dp : Int)), some (.int mo), some (.ref pr), kx] /\ Sit Hx hd en wd WA D tx rx /\ FrS (Ms hd en WA) H Hx /\ 0 <= rx /\ rx <= r /\ tx + 25 * rx <= t + 25 * r + 1 /\ Hx pr = some (.lst (rs.map V.ref)) /\ rs.length <= i /\ Fl Hx n rs fs /\ (fs.length : Int) + rx <= r)
  ⟨_, t1, r, [], [], rfl, S2, ((FrS.new hpr).put' (by trivial)), hr0, by omega, by omega, by rw [zb5 hph]; exact zb1, by simp, .nil, by show (0 : Int) + r <= r; omega⟩ ?_ ?_
 ·rintro i σ Hx hi ⟨kx, tx, rx, rs, fs, rfl, Sx, fx, hx0, hx1, hx2, hpx, hxl, hfl, hfn⟩
  obtain ⟨d, m, hH, ok⟩ := Sx.hand
  refine ⟨_, rfl, hd, _, _, _, rfl, rfl, SqL.of hH, at3, _, _, rfl, rfl, _, rfl, ?_⟩
  refine ite2 (fun c => ?_) (fun c => ?_)
  ·have c' : 0 < rx := of_decide_eq_true c
   refine ⟨_, rfl, hd, _, _, _, rfl, rfl, SqL.of hH, at3, _, _, rfl, rfl, ?_⟩
   refine ⟨_, rfl, hd, _, 3, 3, rfl, rfl, hH, rfl, ?_⟩
   have S3 := Sx.setHand (r' := rx - 1) ok
   have f3 := fx.put' (a := hd) (o := hl d m tx (rx - 1)) (by trivial)
   have hp3 : upd Hx hd (hl d m tx (rx - 1)) pr = some (.lst (rs.map V.ref)) := by rw [zb5 hph]; exact hpx
   refine ⟨_, rfl, .inl ⟨rfl, _, SqL.of hp3⟩, _, rfl, _, rfl, _, rfl, _, rfl, _, rfl, hd, en, wd, WA, D, tx, rx - 1, lv, dp, rfl, hdp, S3, by omega, by omega, fun v fv H4 t4 r4 hfv hlv S4 f4 h0 h1 h2 => ?_⟩
   have hp4 := f4 _ _ hpM hp3
   have S7 := Sit.own (o := .lst (rs.map V.ref ++ [V.ref v])) S S4 (f3.trans f4) hpr
   have tpl : Tup H4 (upd H4 pr (.lst (rs.map V.ref ++ [V.ref v]))) := Tup.lst hp4
   have tp3 : Tup Hx H4 := (Sx.tup (FrS.chg (.head _))).trans (S3.tup f4)
   exact ⟨pr, _, _, rfl, rfl, hp4, s1 (by rw [lqm]; omega), _, t4, r4, rs ++ [v], fs ++ fv, rfl, S7.1, S7.2, h0, by omega, by omega, by rw [zb1, List.map_append]; rfl, by rw [List.length_append, List.length_singleton]; omega, (hfl.keep (tp3.trans tpl)).app (hfv.keep tpl), by rw [List.length_append]; omega⟩
  ·exact ⟨_, tx, rx, rs, fs, rfl, Sx, fx, hx0, hx1, hx2, hpx, by omega, hfl, hfn⟩
 ·rintro σ Hx ⟨kx, tx, rx, rs, fs, rfl, Sx, fx, hx0, hx1, hx2, hpx, hxl, hfl, hfn⟩
  refine ⟨_, rfl, pr, _, rfl, .inl ⟨SqL.of hpx, fun l hl => ?_⟩⟩
  exact q l rs fs _ tx rx zb1 (hfl.keep (Tup.new hl)) hfn (Sx.fr0 (FrS.new hl)) (fx.trans (FrS.new hl)) hx0 hx1 hx2
end
end Gn
end
section
namespace Gn
open PySem L2
abbrev M0 (hd : Addr) (A : WA) : List Addr := [hd, A.told, A.held]
structure Sit0 (H : Hp) (hd wd : Addr) (A : WA) (D : WD) (t r : Int) : Prop where
 hand : ∃ d m, Hand H hd d m t r
 told : ∃ kv, H A.told = some (.dK kv) /\ DOk D.deeds D.names kv
 held : ∃ kv, H A.held = some (.dK kv) /\ DOk D.fields D.names kv
 w : Wld (M0 hd A) H wd A D
 nd : (M0 hd A).Nodup
 ok : WOk D
section
variable {H H' : Hp} {hd en wd : Addr} {A : WA} {D : WD} {t r t' r' : Int}
theorem Sit0.have_ (S : Sit0 H hd wd A D t r) : ∀ b ∈ M0 hd A, ∃ o, H b = some o := by
 obtain ⟨⟨d, m, h1, h1'⟩, ⟨k2, e2, e2'⟩, ⟨k3, e3, e3'⟩, w, nd, wok⟩ := S
 intro b hb
 simp only [M0, List.mem_cons, List.not_mem_nil, or_false] at hb
 rcases hb with rfl | rfl | rfl
 ·exact ⟨_, h1⟩
 ·exact ⟨_, e2⟩
 ·exact ⟨_, e3⟩
theorem Sit0.notin (S : Sit0 H hd wd A D t r) {p : Addr} (hp : H p = none) : p ∉ M0 hd A := fun z => by
 obtain ⟨o, ho⟩ := S.have_ p z
 rw [hp] at ho; cases ho
theorem Sit0.ne (S : Sit0 H hd wd A D t r) : hd ≠ A.told /\ hd ≠ A.held /\ A.told ≠ A.held := by
 have := S.nd
 simp only [M0, List.nodup_cons, List.mem_cons, List.not_mem_nil, or_false, not_or] at this
 exact ⟨this.1.1, this.1.2, this.2.1⟩
theorem Sit0.fr0 (S : Sit0 H hd wd A D t r) (f : FrS [] H H') : Sit0 H' hd wd A D t r := by
 obtain ⟨⟨d, m, h1, h1'⟩, ⟨k2, e2, e2'⟩, ⟨k3, e3, e3'⟩, w, nd, ok⟩ := S
 exact ⟨⟨d, m, f _ _ (by trivial) h1, h1'⟩, ⟨k2, f _ _ (by trivial) e2, e2'⟩, ⟨k3, f _ _ (by trivial) e3, e3'⟩, w.keep (f.mono (by trivial)), nd, ok⟩
theorem Sit0.setHand (S : Sit0 H hd wd A D t r) {d' m' t' r' : Int} (ok : zv1 d' m' t') : Sit0 (upd H hd (hl d' m' t' r')) hd wd A D t' r' := by
 obtain ⟨n2, n3, n6⟩ := S.ne
 obtain ⟨⟨d, m, h1⟩, ⟨k2, e2, e2'⟩, ⟨k3, e3, e3'⟩, w, nd, wok⟩ := S
 exact ⟨⟨d', m', Hand.at ok⟩, ⟨k2, by rw [zb5 n2.symm]; exact e2, e2'⟩, ⟨k3, by rw [zb5 n3.symm]; exact e3, e3'⟩, w.keep (FrS.chg (by trivial)), nd, wok⟩
theorem Sit0.own {H6 : Hp} {t6 r6 : Int} {pa : Addr} {o : HO} (S : Sit0 H hd wd A D t r) (S6 : Sit0 H6 hd wd A D t6 r6) (f : FrS (M0 hd A) H H6) (hpa : H pa = none) : Sit0 (upd H6 pa o) hd wd A D t6 r6 /\ FrS (M0 hd A) H (upd H6 pa o) := by
 have hpaM : pa ∉ M0 hd A := S.notin hpa
 have u : ∀ b ∈ M0 hd A, upd H6 pa o b = H6 b := fun b hb => zb5 (fun z => hpaM (by rw [← z]; exact hb))
 have fr : FrS (M0 hd A) H (upd H6 pa o) := f.put hpa
 obtain ⟨⟨d, m, h1, h1'⟩, ⟨k2, e2, e2'⟩, ⟨k3, e3, e3'⟩, w, nd, ok⟩ := S6
 exact ⟨⟨⟨d, m, (u _ (by trivial)).trans h1, h1'⟩, ⟨k2, (u _ (by trivial)).trans e2, e2'⟩, ⟨k3, (u _ (by trivial)).trans e3, e3'⟩, S.w.keep fr, nd, ok⟩, fr⟩
theorem Sit0.open (S : Sit0 H hd wd A D t r) {kv : List (Key × V)} (he : H en = none) (hk : DOk D.U D.names kv) : Sit (upd H en (.dK kv)) hd en wd A D t r := by
 have hn := S.notin he
 obtain ⟨n2, n3, n6⟩ := S.ne
 have fr : FrS [] H (upd H en (.dK kv)) := FrS.new he
 have S2 := S.fr0 fr
 refine ⟨S2.hand, ⟨kv, zb1, hk⟩, S2.told, S2.held, S.w.map fun a o h => ⟨fun z => ?_, fr _ _ (by trivial) h.2⟩, ?_, S.ok⟩
 ·simp only [Ms, List.mem_cons, List.not_mem_nil, or_false] at z
  rcases z with z | z | z | z
  ·exact h.1 (by rw [z]; simp)
  ·exact zb4 h.2 he z
  ·exact h.1 (by rw [z]; simp)
  ·exact h.1 (by rw [z]; simp)
 ·simp only [M0, List.mem_cons, List.not_mem_nil, or_false, not_or] at hn
  simp only [Ms, List.nodup_cons, List.mem_cons, List.not_mem_nil, or_false, not_or]
  exact ⟨⟨Ne.symm hn.1, n2, n3⟩, ⟨hn.2.1, hn.2.2⟩, n6, not_false, List.nodup_nil⟩
theorem Sit.close (S : Sit H hd en wd A D t r) : Sit0 H hd wd A D t r := by
 obtain ⟨n1, n2, n3, n4, n5, n6⟩ := S.ne
 refine ⟨S.hand, S.told, S.held, S.w.map fun a o h => h.sub (by simp +contextual), ?_, S.ok⟩
 simp only [M0, List.nodup_cons, List.mem_cons, List.not_mem_nil, or_false, not_or]
 exact ⟨⟨n2, n3⟩, n6, not_false, List.nodup_nil⟩
theorem FrS.close {H1 : Hp} {o : HO} (he : H en = none) (f : FrS (Ms hd en A) (upd H en o) H1) : FrS (M0 hd A) H H1 := fun b u n e => by
 have hb : b ≠ en := zb4 e he
 refine f b u (fun z => ?_) (by rw [zb5 hb]; exact e)
 simp only [Ms, List.mem_cons, List.not_mem_nil, or_false] at z
 rcases z with z | z | z | z
 ·exact n (by rw [z]; simp)
 ·exact hb z
 ·exact n (by rw [z]; simp)
 ·exact n (by rw [z]; simp)
theorem DOk.merge {U N : List Str} : ∀ (more : List (Key × V)) {kvs : List (Key × V)}, DOk U N kvs -> (∀ kv ∈ more, ∃ x ∈ U, kv.1 = Sum.inr x /\ (kv.2 = .non ∨ ∃ n ∈ N, kv.2 = .str n)) -> DOk U N (zg3 kvs more)
 | [], kvs, h, _ => h
 | a :: l, kvs, h, hm => by
  obtain ⟨x, hx, e, hv⟩ := hm a (List.mem_cons_self ..)
  show DOk U N (zg3 (putK kvs a.1 a.2) l)
  refine DOk.merge l ?_ fun kv hk => hm kv (List.mem_cons_of_mem _ hk)
  rw [e]
  exact h.put hx hv
end
theorem Sit0.tup {H H' : Hp} {hd wd : Addr} {A : WA} {D : WD} {t r : Int} (S : Sit0 H hd wd A D t r) (f : FrS (M0 hd A) H H') : Tup H H' := by
 obtain ⟨⟨d, m, h1, h1'⟩, ⟨k2, e2, e2'⟩, ⟨k3, e3, e3'⟩, w, nd, wok⟩ := S
 refine FrS.tup f fun b hb xs => ?_
 simp only [M0, List.mem_cons, List.not_mem_nil, or_false] at hb
 rcases hb with rfl | rfl | rfl
 ·rw [h1]; intro z; cases z
 ·rw [e2]; intro z; cases z
 ·rw [e3]; intro z; cases z
abbrev yv1 : Stmt := top 33
inductive xs1 (vs : List V) (H : Hp) (Q : VK) : Prop
 | mk (hd wd : Addr) (A : WA) (D : WD) (t r : Int) (kd : Str) (lv : Nat) (h1 : vs = [.ref hd, .ref wd, .str kd, .int (lv : Int)]) (h2 : kd ∈ D.names) (h3 : lv < D.deeds.length) (h4 : Sit0 H hd wd A D t r) (h5 : 0 <= r) (h6 : t + 25 * r + 20 < 1000000) (h7 : ∀ (x : Addr) (dn : Str) (pv gv : V) (l : Addr) (rs fs : List Addr) (H' : Hp) (t' r' : Int), H' x = some (.tup [.str dn, pv, .ref l, gv]) -> H' l = some (.tup (rs.map V.ref)) -> Fl H' 4 rs fs -> (fs.length : Int) + r' <= r -> Sit0 H' hd wd A D t' r' -> FrS (M0 hd A) H H' -> 0 <= r' -> r' <= r -> t' + 25 * r' <= t + 25 * r + 15 -> Q (.ref x) H') : xs1  vs H Q
def ys9 : Sp := fun vs H Q _ => xs1  vs H Q
section
variable {P : Program} {w : World} {K : PySem.W.Frag} {mg : Str -> Option Value} {base : Heap} {f : Addr} {fd : FuncData}
abbrev nDeed : List Str := ["_law_hand_here", "_law_world_here", "_law_kind", "_law_level", "_law_deed_here", "_law_pool", "_law_wanted", "_law_params", "_law_env", "_law_rows_here", "_law_gives"]
abbrev xw8 : List Str := ["_law_hand_here", "_law_world_here", "_law_kind", "_law_level"]
theorem zt9 : zd3 nDeed xw8 (zb7 yv1) := ⟨rfl, rfl, rfl, by decide +kernel, rfl, by decide +kernel, by decide +kernel⟩
set_option maxHeartbeats 4000000 in
theorem wb0 {k : Nat} (F : Fun K "_law_deed" "_law_deed" yv1 f fd) (T : Cal P w K mg base k "_law_take" ["_law_hand_here", "_law_many"] zh5) (O : Cal P w K mg base k "_law_of" ["_law_hand_here", "_law_some"] (spOf K))
  (V' : Cal P w K mg base k "_law_variable" ["_law_hand_here", "_law_world_here", "_law_env"] yj8) (R : Cal P w K mg base k "_law_rows" zz9 (zx2 4)) (ml : mg "len" = none) (mli : mg "list" = none) (mz : mg "zip" = none) (mdi : mg "dict" = none) (mtu : mg "tuple" = none) :
  FnOk P w K mg base CX0 (k + 1) f fd xw8 ys9 := by
 obtain ⟨g, gd, GT, bT, kT, mT⟩ := T.ex
 obtain ⟨g2, gd2, GO, bO, kO, mO⟩ := O.ex
 obtain ⟨g3, gd3, GV, bV, kV', mV⟩ := V'.ex
 obtain ⟨g4, gd4, GR, bR, kR, mR⟩ := R.ex
 refine F.ok zt9 (fun vs H Q E h => ?_) (fun cdv A outer s H vs Q E hr h => ?_)
 ·obtain ⟨hd, wd, A, D, t, r, kd, lv, rfl, _⟩ := h
  rfl
 obtain ⟨hd, wd, WA, D, t, r, kd, lv, rfl, hkd, hlv, S, hr0, ht, q⟩ := h
 have hu := zm7 hr
 have nd3 : (["_law_want", "_law_pool", "_law_hand_here"] : List Str).Nodup := by decide +kernel
 refine ⟨_, zb3 (zc3 (i := 4) zt9.nd rfl (Or.inl rfl) (eI (zc9 hu (pv 1) zd5 (fun _ _ => rfl)) (pv 3)))
  (zb3 (zc3 (i := 5) zt9.nd rfl (Or.inr rfl) (zf7 yc3 (zc9 hu (pv 1) zd5 (fun _ _ => rfl)) (zj8 zs6 (zc9 hu (pv 1) zd5 (fun _ _ => rfl)) zm1 (zk8 zb6))))
  (zb3 (zc3 (i := 6) zt9.nd rfl (Or.inl rfl) (zc9 hu (zc9 hu (pv 1) zd5 (fun _ _ => rfl)) (zf6 (zb0 (zc9 hu (zc9 hu (pv 1) zd5 (fun _ _ => rfl)) (pv 2) (fun _ _ => rfl)) (zb0 (pv 4) zb2))) (fun _ _ => rfl)))
  (zb3 (zh1 (i := 7) (N' := ["_law_want", "_law_pool", "_law_hand_here"]) (src := [none, some 5, some 0]) rfl zt9.nd rfl rfl ⟨rfl, by decide +kernel, by decide +kernel, rfl, rfl, rfl⟩
   (zh0 (pv 6)) (g := zf8 0) (fun _ _ _ _ => zc0 (i := 0) nd3 rfl (Or.inl rfl) (Or.inr rfl)) (fun _ _ _ _ => zh3)
   (te := tBM K "list" xs4 (tVar 1) (zc4 (zm2 zh5 [] E0 (zc4 (tVar 2) (zc4 (tCB (fun xs H Q => ∃ p ys, xs = [.ref p] /\ (SqL K H p ys ∨ SqT K H p ys) /\ Q (.int ys.length) H) (zc4 (tVar 1) tNil)) tNil))) tNil))
   (fun _ _ _ _ => zk6 PySem.F.plainAttrs_list PySem.F.slot_list_pop PySem.F.type_list_pop xm5 (pv 1) (zb0 (zb8 GT hr rfl mT kT bT .nil zc6 (zb0 (pv 2) (zb0 (zd6 zf4 rfl ml PySem.boot_len (zb0 (pv 1) zb2)) zb2))) zb2)))
  (zb3 (zc3 (i := 8) zt9.nd rfl (Or.inl rfl) (zd1 (zj3 rfl) rfl mdi (by decide +kernel) (zb0 (zf7 yc3 (zd7 (zb0 (zf6 (zb0 zd5 (zb0 (pv 2) zb2))) zb2)) (yv7 rfl rfl mli rfl mz (zb0 (pv 7) (zb0 (pv 6) zb2)))) zb2)))
  (zb3 (zc3 (i := 9) zt9.nd rfl (Or.inl rfl) (zb8 GR hr rfl mR kR bR .nil zc6 (zb0 (pv 0) (zb0 (pv 1) (zb0 (pv 8) (zb0 (pv 3) (zb0 (zb8 GT hr rfl mT kT bT .nil zc6 (zb0 (pv 0) (zb0 zb6 zb2)))
   (zb0 (zb8 GO hr rfl mO kO bO .nil zc6 (zb0 (pv 0) (zb0 (zd7 (zb0 zb6 (zb0 zb6 (zb0 zb6 (zb0 zb6 (zb0 zb6 zb2)))))) zb2))) zb2))))))))
  (zb3 (zc3 (i := 10) zt9.nd rfl (Or.inl rfl) (zb8 GO hr rfl mO kO bO .nil zc6 (zb0 (pv 0) (zb0 (zd7 (zb0 xf3 (zb0 (zb8 GV hr rfl mV kV' bV .nil zc6 (zb0 (pv 0) (zb0 (pv 1) (zb0 (pv 8) zb2)))) (zb0 (zb8 GV hr rfl mV kV' bV .nil zc6 (zb0 (pv 0) (zb0 (pv 1) (zb0 (pv 8) zb2)))) zb2)))) zb2))))
  (zb3 (zm9 hu (zc9 hu (pv 1) zd5 (fun _ _ => rfl)) (pv 4) (xp7 hu (pv 8) (pv 10) ⟨rfl, rfl, rfl, rfl⟩) rfl)
  (zb9 (zd4 (zf6 (zb0 (pv 4) (zb0 (zd1 zc8 rfl mtu (by decide +kernel) (zb0 (pv 7) zb2)) (zb0 (pv 9) (zb0 (pv 10) zb2)))))))))))))), ?_⟩
 first | dsimp only [cxOf, Cx.nox] | skip
 have s1 : ∀ {n : Nat}, n <= 1000 -> n < sizeLine := fun h => zc2 h
 have h6 := S.ok.d6
 have hU : D.U.length = 9 := by unfold WD.U; rw [List.length_cons, List.length_append, S.ok.v4, S.ok.p4]
 have hdn : D.deeds[lv] ∈ D.deeds := List.getElem_mem hlv
 have hat : atI (D.deeds.map V.str) (lv : Int) = some (.str D.deeds[lv]) := zq2 (by rw [List.getElem?_map, List.getElem?_eq_getElem hlv]; rfl)
 refine ⟨_, rfl, wd, _, rfl, S.w.g.2.2.1, _, rfl, WA.deeds, _, _, _, rfl, rfl, SqL.of S.w.deeds.2, hat, ?_⟩
 generalize D.deeds[lv] = dn at hdn
 refine ⟨_, rfl, wd, _, rfl, S.w.g.2.2.2.2.2.2.1, _, rfl, wd, _, rfl, S.w.g.2.2.2.2.2.1, _, rfl, WA.vars, _, rfl, SqL.of S.w.vars.2, fun pv' hpv => ?_⟩
 obtain ⟨ds, ed, edl, edm⟩ := xc7 D.vars none (some 2)
 rw [ed]
 rw [S.ok.v4] at edl
 have S1 := S.fr0 (FrS.new (S := []) (o := .lst (ds.map V.str)) hpv)
 have f1 : FrS (M0 hd WA) H (upd H pv' (.lst (ds.map V.str))) := FrS.new hpv
 refine ⟨WA.params, pv', _, _, rfl, rfl, S1.w.params.2, zb1, by rw [lqm, lqm, S.ok.p4]; exact Nat.le_of_lt (s1 (by omega)), fun pl hpl => ?_⟩
 generalize upd H pv' (.lst (ds.map V.str)) = H1 at S1 f1 hpl
 rw [← List.map_append]
 have S2 := S1.fr0 (FrS.new (S := []) (o := .lst ((D.params ++ ds).map V.str)) hpl)
 have f2 : FrS (M0 hd WA) H1 (upd H1 pl (.lst ((D.params ++ ds).map V.str))) := FrS.new hpl
 have hpl2 : upd H1 pl (.lst ((D.params ++ ds).map V.str)) pl = some (.lst ((D.params ++ ds).map V.str)) := zb1
 generalize upd H1 pl (.lst ((D.params ++ ds).map V.str)) = H2 at S2 f2 hpl2
 have hpsl : (D.params ++ ds).length = 4 + ds.length := by rw [List.length_append, S.ok.p4]
 have hpsU : ∀ x ∈ D.params ++ ds, x ∈ D.U := fun x hx => by
  unfold WD.U
  rcases List.mem_append.mp hx with h | h
  ·simp [h]
  ·simp [edm x h]
 generalize D.params ++ ds = ps at hpl2 hpsl hpsU
 obtain ⟨rt, wp, ws, e1, e2, e3, e4, e5⟩ := S.w.wl kd hkd dn hdn
 refine ⟨_, rfl, wd, _, rfl, S2.w.g.2.2.2.1, _, rfl, wd, _, rfl, S2.w.g.2.2.2.2.2.2.2.2.2.2, _, rfl, WA.roots, _, rfl, .inl ⟨_, Sum.inr kd, .inl S2.w.roots.2, rfl, e1.symm⟩, _, rfl, by show 2 <= sizeLine; exact Nat.le_of_lt (s1 (by decide)), fun pk hpk => ?_⟩
 have S3 := S2.fr0 (FrS.new (S := []) (o := .tup [V.str rt, V.str dn]) hpk)
 have f3 : FrS (M0 hd WA) H1 (upd H2 pk (.tup [V.str rt, V.str dn])) := f2.trans (FrS.new hpk)
 have hpl3 : upd H2 pk (.tup [V.str rt, V.str dn]) pl = some (.lst (ps.map V.str)) := by rw [zb5 (zb4 hpl2 hpk)]; exact hpl2
 refine ⟨WA.wants, .ref wp, rfl, .inr ⟨_, [Sum.inr rt, Sum.inr dn], pk, .inl S3.w.wants.2, rfl, zb1, e2.symm⟩, ?_⟩
 generalize upd H2 pk (.tup [V.str rt, V.str dn]) = H3 at S3 f3 hpl3
 have w3 := e3.keep (f1.trans f3)
 have hplM : pl ∉ M0 hd WA := S1.notin hpl
 refine ⟨_, rfl, wp, rfl, ⟨_, SqL.of w3.2⟩, fun Dl hDl => ?_⟩
 have hDM : Dl ∉ M0 hd WA := S3.notin hDl
 have hD1 : H1 Dl = none := f3.old S3.have_ hDl
 have hlD : pl ≠ Dl := zb4 hpl3 hDl
 refine zj7 (xs := ws.map V.str) (fun i σ Hx => ∃ (kx : Option V) (tx : Int) (ps' qs : List Str), σ = [kx, some (.ref pl), some (.ref hd)] /\ Sit0 Hx hd wd WA D tx r /\ FrS (M0 hd WA) H1 Hx /\ tx <= t + i /\ Hx pl = some (.lst (ps'.map V.str)) /\ ps'.length + i = ps.length /\ (∀ x ∈ ps', x ∈ D.U) /\ Hx Dl = some (.lst (qs.map V.str)) /\ qs.length = i /\ ∀ x ∈ qs, x ∈ D.U)
  ⟨_, t, ps, [], rfl, S3.fr0 (FrS.new hDl), f3.trans (FrS.new hDl), by omega, by rw [zb5 hlD]; exact hpl3, by omega, hpsU, zb1, rfl, by simp⟩ ?_ ?_ ?_
 ·rintro i σ Hx hi ⟨_, _, _, _, _, _, fx, _⟩
  exact SqL.of (e3.keep (f1.trans fx)).2
 ·rintro i x σ Hx hx ⟨kx, tx, ps', qs, rfl, Sx, fx, htx, hpx, hpl', hpU, hDx, hql, hqU⟩
  obtain ⟨hi, _⟩ := List.getElem?_eq_some_iff.mp hx
  rw [lqm] at hi
  obtain ⟨d, m, hh⟩ := Sx.hand
  have hpd : pl ≠ hd := fun z => hplM (by rw [z]; simp)
  refine ⟨_, rfl, .inl ⟨rfl, _, SqL.of hpx⟩, _, rfl, _, rfl, pl, _, rfl, .inl (SqL.of hpx), hd, d, m, tx, r, _, rfl, hh, by omega, by rw [lqm]; omega, by rw [lqm]; omega, fun y d' m' ty y0 y1 c e => ?_⟩
  rw [lqm] at y1
  have Sy := Sx.setHand (r' := r) c
  have fy := fx.put' (a := hd) (o := hl d' m' ty r) (by trivial)
  have hpy : upd Hx hd (hl d' m' ty r) pl = some (.lst (ps'.map V.str)) := by rw [zb5 hpd]; exact hpx
  have hDy : upd Hx hd (hl d' m' ty r) Dl = some (.lst (qs.map V.str)) := by rw [zb5 (fun z => hDM (by rw [z]; simp))]; exact hDx
  generalize upd Hx hd (hl d' m' ty r) = Hy at Sy fy hpy hDy
  have hyk : y.toNat < ps'.length := by omega
  have hsi : seqIndex? y (ps'.map V.str).length = some y.toNat := by
   unfold seqIndex?
   rw [lqm]
   have g1 : ¬ y < 0 := by omega
   simp only [g1, if_false]
   rw [if_pos (by simp; omega)]
  refine ⟨pl, _, y, y.toNat, .str ps'[y.toNat], rfl, rfl, hpy, by omega, by omega, hsi, by rw [List.getElem?_map, List.getElem?_eq_getElem hyk]; rfl, ?_⟩
  have eer : (ps'.map V.str).eraseIdx y.toNat = (ps'.eraseIdx y.toNat).map V.str := by rw [List.eraseIdx_eq_take_drop_succ, List.eraseIdx_eq_take_drop_succ, List.map_append, List.map_take, List.map_drop]
  rw [eer]
  have S7 := Sit0.own (o := .lst ((ps'.eraseIdx y.toNat).map V.str)) S1 Sy fy hpl
  have hD7 : upd Hy pl (.lst ((ps'.eraseIdx y.toNat).map V.str)) Dl = some (.lst (qs.map V.str)) := by rw [zb5 hlD.symm]; exact hDy
  have S8 := Sit0.own (o := .lst (qs.map V.str ++ [V.str ps'[y.toNat]])) S1 S7.1 S7.2 hD1
  refine ⟨_, hD7, by rw [lqm]; exact s1 (by omega), _, ty, ps'.eraseIdx y.toNat, qs ++ [ps'[y.toNat]], rfl, S8.1, S8.2, by omega, by rw [zb5 hlD]; exact zb1, ?_, fun x hx => hpU x (List.mem_of_mem_eraseIdx hx), by rw [zb1, List.map_append]; rfl, by rw [List.length_append, hql]; rfl, fun x hx => ?_⟩
  ·rw [List.length_eraseIdx_of_lt hyk]; omega
  ·rcases List.mem_append.mp hx with h | h
   ·exact hqU x h
   ·rw [List.mem_singleton.mp h]; exact hpU _ (List.getElem_mem hyk)
 rintro σ H4 ⟨kx, t4, ps', qs, rfl, S4, f4, ht4, hp4, _, _, hD4, hql, hqU⟩
 rw [lqm] at ht4 hql
 have f04 : FrS (M0 hd WA) H H4 := f1.trans f4
 have w4 := e3.keep f04
 refine ⟨_, rfl, by show 2 <= sizeLine; exact Nat.le_of_lt (s1 (by decide)), fun pt hpt => ⟨by show 1 <= sizeLine; exact Nat.le_of_lt (s1 (by decide)), fun po hpo => ?_⟩⟩
 have f5 : FrS [] H4 (upd (upd H4 pt (.tup [V.str "own", V.str kd])) po (.lst [V.ref pt])) := (FrS.new hpt).trans (FrS.new hpo)
 have hpo5 : upd (upd H4 pt (.tup [V.str "own", V.str kd])) po (.lst [V.ref pt]) po = some (.lst [V.ref pt]) := zb1
 have hpt5 : upd (upd H4 pt (.tup [V.str "own", V.str kd])) po (.lst [V.ref pt]) pt = some (.tup [V.str "own", V.str kd]) := by rw [zb5 (zb4 (o := .tup [V.str "own", V.str kd]) zb1 hpo)]; exact zb1
 generalize upd (upd H4 pt (.tup [V.str "own", V.str kd])) po (.lst [V.ref pt]) = H5 at f5 hpo5 hpt5
 refine ⟨_, rfl, _, rfl, Dl, wp, qs.map V.str, ws.map V.str, rfl, SqL.of (f5 _ _ (by trivial) hD4), SqL.of (f5 _ _ (by trivial) w4.2), by rw [lqm, lqm]; exact hql, fun zl ts H6 fz hzl hz6 htl hzp => ?_⟩
 have f6 : FrS [] H4 H6 := f5.trans fun b o _ e => fz b o e
 rw [lqm] at htl
 refine ⟨po, zl, _, _, rfl, rfl, fz _ _ hpo5, hz6, by rw [lqm]; show 1 + ts.length <= sizeLine; exact Nat.le_of_lt (s1 (by omega)), fun pc hpc => ?_⟩
 have f7 : FrS [] H4 (upd H6 pc (.lst ([V.ref pt] ++ ts.map V.ref))) := f6.trans (FrS.new hpc)
 have S7 := S4.fr0 f7
 refine ⟨pc, pt :: ts, (Sum.inr "own", .str kd) :: (qs.zip ws).map (fun p => ((Sum.inr p.1 : Key), V.str p.2)), rfl, SqL.of zb1, ?_, ?_, fun j t' kv ht' hkv => ?_, fun en hen => ?_⟩
 ·rw [List.length_cons, List.length_cons, lqm, List.length_zip]; omega
 ·rw [List.length_cons, lqm, List.length_zip]; exact s1 (by omega)
 ·cases j with
  | zero =>
   have a1 : pt = t' := by simpa using ht'
   have a2 : ((Sum.inr "own" : Key), V.str kd) = kv := by simpa using hkv
   subst a1 a2
   exact SqT.of (by rw [zb5 (zb4 (fz _ _ hpt5) hpc)]; exact fz _ _ hpt5)
  | succ j =>
   have a1 : ts[j]? = some t' := by simpa using ht'
   have a2 : ((qs.zip ws).map (fun p => ((Sum.inr p.1 : Key), V.str p.2)))[j]? = some kv := by simpa using hkv
   obtain ⟨x, y, g1, g2, g3⟩ := hzp j t' a1
   rw [List.getElem?_map] at g1 g2 a2
   obtain ⟨x', hx', rfl⟩ := Option.map_eq_some_iff.mp g1
   obtain ⟨y', hy', rfl⟩ := Option.map_eq_some_iff.mp g2
   obtain ⟨p, hp, rfl⟩ := Option.map_eq_some_iff.mp a2
   rw [List.getElem?_zip_eq_some] at hp
   obtain ⟨z1, z2⟩ := hp
   rw [hx'] at z1
   rw [hy'] at z2
   cases z1
   cases z2
   exact SqT.of (by rw [zb5 (zb4 g3 hpc)]; exact g3)
 have hDe : Dl ≠ en := zb4 (f7 _ _ (by trivial) hD4) hen
 have hkv : DOk D.U D.names (zg3 [] ((Sum.inr "own", .str kd) :: (qs.zip ws).map (fun p => ((Sum.inr p.1 : Key), V.str p.2)))) := by
  refine DOk.merge _ DOk.nil fun kv hkv => ?_
  rcases List.mem_cons.mp hkv with rfl | h
  ·exact ⟨"own", by unfold WD.U; simp, rfl, .inr ⟨kd, hkd, rfl⟩⟩
  ·obtain ⟨p, hp, rfl⟩ := List.mem_map.mp h
   have := List.of_mem_zip hp
   exact ⟨p.1, hqU _ this.1, rfl, .inr ⟨p.2, e5 _ this.2, rfl⟩⟩
 have S8 := S7.open hen hkv
 have hD8 : Stt (Ms hd en WA) (upd (upd H6 pc (.lst ([V.ref pt] ++ ts.map V.ref))) en (.dK (zg3 [] ((Sum.inr "own", .str kd) :: (qs.zip ws).map (fun p => ((Sum.inr p.1 : Key), V.str p.2)))))) Dl (.lst (qs.map V.str)) := by
  refine ⟨fun z => ?_, by rw [zb5 hDe]; exact f7 _ _ (by trivial) hD4⟩
  simp only [Ms, List.mem_cons, List.not_mem_nil, or_false] at z
  simp only [M0, List.mem_cons, List.not_mem_nil, or_false, not_or] at hDM
  rcases z with z | z | z | z
  ·exact hDM.1 z
  ·exact hDe z
  ·exact hDM.2.1 z
  ·exact hDM.2.2 z
 have fcl : ∀ Hf : Hp, FrS (Ms hd en WA) (upd (upd H6 pc (.lst ([V.ref pt] ++ ts.map V.ref))) en (.dK (zg3 [] ((Sum.inr "own", .str kd) :: (qs.zip ws).map (fun p => ((Sum.inr p.1 : Key), V.str p.2)))))) Hf -> FrS (M0 hd WA) H Hf := fun Hf ff => (f04.trans (f7.mono (by trivial))).trans (FrS.close hen ff)
 generalize upd (upd H6 pc (.lst ([V.ref pt] ++ ts.map V.ref))) en (.dK (zg3 [] ((Sum.inr "own", .str kd) :: (qs.zip ws).map (fun p => ((Sum.inr p.1 : Key), V.str p.2))))) = H8 at S8 hD8 fcl
 obtain ⟨d, m, hh⟩ := S8.hand
 refine ⟨_, rfl, _, rfl, _, rfl, _, rfl, _, rfl, hd, d, m, t4, r, 3, rfl, hh, by omega, by decide, by decide, fun x d9 m9 t9 x0 x1 c9 e9 => ?_⟩
 obtain ⟨dp, rfl⟩ : ∃ dp : Nat, x = (dp : Int) := ⟨x.toNat, by omega⟩
 have S9 := S8.setHand (r' := r) c9
 have f9 : FrS (Ms hd en WA) H8 (upd H8 hd (hl d9 m9 t9 r)) := FrS.chg (by trivial)
 refine ⟨_, rfl, by show 5 <= sizeLine; exact Nat.le_of_lt (s1 (by decide)), fun pi hpi => ?_⟩
 have Sa := S9.fr0 (FrS.new (S := []) (o := .lst [V.int 1, V.int 2, V.int 3, V.int 4, V.int 6]) hpi)
 have fa := f9.trans (FrS.new (o := .lst [V.int 1, V.int 2, V.int 3, V.int 4, V.int 6]) hpi)
 have hpid : pi ≠ hd := fun z => S9.notin hpi (by rw [z]; simp)
 obtain ⟨d, m, hh⟩ := Sa.hand
 refine ⟨hd, pi, d, m, t9, r, _, rfl, hh, by omega, hpid, SqL.of zb1, by simp, by show 5 < 1000; decide, fun y db mb tb hy cb eb => ?_⟩
 obtain ⟨mo, rfl, mo0, mo1⟩ : ∃ mo : Int, y = .int mo /\ 0 <= mo /\ mo <= 100 := by
  simp only [List.mem_cons, List.not_mem_nil, or_false] at hy
  rcases hy with rfl | rfl | rfl | rfl | rfl
  ·exact ⟨1, rfl, by decide, by decide⟩
  ·exact ⟨2, rfl, by decide, by decide⟩
  ·exact ⟨3, rfl, by decide, by decide⟩
  ·exact ⟨4, rfl, by decide, by decide⟩
  ·exact ⟨6, rfl, by decide, by decide⟩
 have Sb := Sa.setHand (r' := r) cb
 have fb := fa.put' (a := hd) (o := hl db mb tb r) (by trivial)
 refine ⟨hd, en, wd, WA, D, tb, r, (lv : Int), mo, dp, rfl, by omega, mo0, mo1, Sb, hr0, by omega, fun rv rsv fsv Hc tc rc hrv hfv hlv Sc fc hc0 hc1 hc2 => ?_⟩
 have fc' := fb.trans fc
 refine ⟨_, rfl, _, rfl, _, rfl, _, rfl, hd, en, wd, WA, D, tc, rc, rfl, Sc, by omega, fun x1 Hd td Sd fd' htd _ => ?_⟩
 refine ⟨_, rfl, _, rfl, _, rfl, hd, en, wd, WA, D, td, rc, rfl, Sd, by omega, fun x2 He te Se fe hte _ => ?_⟩
 have fe' := (fc'.trans fd').trans fe
 refine ⟨by show 3 <= sizeLine; exact Nat.le_of_lt (s1 (by decide)), fun pg hpg => ?_⟩
 have Sf := Se.fr0 (FrS.new (S := []) (o := .lst [V.non, V.str x1, V.str x2]) hpg)
 have ff := fe'.trans (FrS.new (o := .lst [V.non, V.str x1, V.str x2]) hpg)
 have hpgd : pg ≠ hd := fun z => Se.notin hpg (by rw [z]; simp)
 obtain ⟨d, m, hh⟩ := Sf.hand
 refine ⟨hd, pg, d, m, te, rc, _, rfl, hh, by omega, hpgd, SqL.of zb1, by simp, by show 3 < 1000; decide, fun gv dg mg' tg hgv cg eg => ?_⟩
 have Sg := Sf.setHand (r' := rc) cg
 have fg := ff.put' (a := hd) (o := hl dg mg' tg rc) (by trivial)
 obtain ⟨kv, henv, hk⟩ := Sg.env
 obtain ⟨kt, hto, hkt⟩ := Sg.told
 obtain ⟨ov, hask, hov⟩ : ∃ ov : Option V, DAsk (upd (upd He pg (.lst [V.non, V.str x1, V.str x2])) hd (hl dg mg' tg rc)) en gv ov /\ (ov.getD .non = .non ∨ ∃ n ∈ D.names, ov.getD .non = .str n) := by
  simp only [List.mem_cons, List.not_mem_nil, or_false] at hgv
  rcases hgv with rfl | rfl | rfl
  ·exact ⟨none, ⟨kv, .inl henv, .inl ⟨rfl, rfl⟩⟩, .inl rfl⟩
  ·exact ⟨_, ⟨kv, .inl henv, .inr ⟨Sum.inr x1, rfl, rfl⟩⟩, hk.get _⟩
  ·exact ⟨_, ⟨kv, .inl henv, .inr ⟨Sum.inr x2, rfl, rfl⟩⟩, hk.get _⟩
 refine ⟨_, rfl, en, rfl, .inl ⟨_, .inl henv⟩, _, rfl, ov, hask, _, rfl, wd, _, rfl, Sg.w.g.2.2.2.2.2.2.2.2.1, _, rfl, WA.told, _, rfl, DPut.k (k := (Sum.inr dn : Key)) hto (s1 (by have := hkt.len; omega)), ?_⟩
 have Sh := Sg.setTold (hkt.put hdn hov)
 have fh := fg.put' (a := WA.told) (o := .dK (putK kt (Sum.inr dn) (ov.getD .non))) (by trivial)
 have hDh := hD8.keep fh
 refine ⟨_, rfl, _, rfl, Dl, _, rfl, .inl ⟨SqL.of hDh.2, fun pq hpq => ?_⟩⟩
 refine ⟨_, rfl, _, rfl, by show 4 <= sizeLine; exact Nat.le_of_lt (s1 (by decide)), fun pr hpr => ?_⟩
 have fk : FrS (Ms hd en WA) Hc (upd (upd (upd He pg (.lst [V.non, V.str x1, V.str x2])) hd (hl dg mg' tg rc)) WA.told (.dK (putK kt (Sum.inr dn) (ov.getD .non)))) := (((fd'.trans fe).trans (FrS.new hpg)).put' (.head _)).put' (.tail _ (.tail _ (.head _)))
 have tpk := (Sc.tup fk).trans ((Tup.new hpq).trans (Tup.new (o := .tup [V.str dn, V.ref pq, V.ref rv, gv]) hpr))
 exact q pr dn _ gv rv rsv fsv _ tg rc zb1 (tpk _ _ hrv) (hfv.keep tpk) hlv ((Sh.fr0 (FrS.new hpq)).fr0 (FrS.new hpr)).close (fcl _ ((fh.trans (FrS.new hpq)).trans (FrS.new hpr))) hc0 hc1 (by omega)
end
end Gn
end
section
namespace Gn
open PySem L2
theorem xq7 {K : PySem.W.Frag} {a : Addr} {xs : List V} {g : TG} {tb : TS} {D : Ends} {σ : St} {H : Hp} (Pv : Nat -> St -> Hp -> Prop) (h0 : Pv 0 σ H) (hl : ∀ i σ H, i <= xs.length -> Pv i σ H -> SqL K H a xs)
  (hs : ∀ i x p σ H, xs[i]? = some x -> Pv i σ H -> H p = none -> g (.ref p) σ (upd H p (.tup [.int (i : Nat), x])) fun σ2 H2 => tb { D with nx := Pv (i + 1), ct := Pv (i + 1), bk := D.nx } σ2 H2) (hd : ∀ σ H, Pv xs.length σ H -> D.nx σ H) :
  ∃ W : Nat -> Nat -> St -> Hp -> Prop, (∃ m, W 0 m σ H) /\ ∀ i m σ H, W i m σ H ->
   ((Ite K a).stop i H /\ D.nx σ H) ∨ ((Ite K a).go i H /\ ∃ N : St -> Hp -> Prop, (∀ σ' H', N σ' H' -> ∃ m', m' < m /\ W (i + 1) m' σ' H') /\ ∀ x H', (Ite K a).yld i H x H' -> g x σ H' fun σ2 H2 => tb { D with nx := N, ct := N, bk := D.nx } σ2 H2) := by
 refine ⟨fun i m σ H => m = xs.length - i /\ i <= xs.length /\ Pv i σ H, ⟨xs.length, by simp, Nat.zero_le _, h0⟩, ?_⟩
 rintro i m σ H ⟨rfl, hi, p⟩
 have q := hl i σ H hi p
 by_cases hlt : i < xs.length
 ·refine .inr ⟨⟨xs, xs[i], q, by simp [hlt]⟩, Pv (i + 1), fun σ' H' p' => ⟨xs.length - (i + 1), by omega, rfl, hlt, p'⟩, fun x H' y => ?_⟩
  obtain ⟨p2, y2, hp2, rfl, rfl, yy⟩ := y
  exact hs i y2 p2 σ _ (yy xs q) p hp2
 ·have e : i = xs.length := by omega
  subst e
  exact .inl ⟨⟨xs, q, Nat.le_refl _⟩, hd σ H p⟩
inductive yx7 (H : Hp) (hd pn pt pl : Addr) (n : Nat) (way t r : Int) (ws : List Str) (i : Nat) (σ : St) (Hx : Hp) : Prop
 | mk (kx nx ex : Option V) (dx mx tx : Int) (tr : Tr) (ts : List Addr) (late : List Str) (h1 : σ = [some (.ref hd), some (.int (n : Int)), some (.ref pn), some (.int way), some (.ref pt), some (.ref pl), kx, nx, ex])
   (h2 : FrS [hd] H Hx) (h3 : Hand Hx hd dx mx tx r) (h4 : tx <= t + 12 + 3 * (i : Int)) (h5 : Hx pn = some (.lst (ws.map V.str))) (h6 : Hx pt = some (.lst (ts.map V.ref))) (h7 : Hx pl = some (.lst (late.map V.str))) (h8 : ts.length = i) (h9 : tr.map (·.1) = ws.take i) (h10 : TrOk tr)
   (h11 : ∀ (j : Nat) t x, ts[j]? = some t -> tr[j]? = some x -> Hx t = some (.tup [.str x.1, eldV x.2])) (h12 : late.length <= i) (h13 : ∀ x ∈ late, ∃ j, 1 <= j /\ j < i /\ ws[j]? = some x) : yx7 H hd pn pt pl n way t r ws i σ Hx
abbrev yx9 : Stmt := top 21
inductive xt1 (vs : List V) (H : Hp) (Q : VK) : Prop
 | mk (hd : Addr) (d m t r : Int) (h1 : vs = [.ref hd]) (h2 : Hand H hd d m t r) (h3 : t + 100 < 1000000) (h4 : ∀ (a tp lp : Addr) (ts : List Addr) (tr : Tr) (late : List Str) (d' m' t' : Int) (H' : Hp), FrS [hd] H H' -> Hand H' hd d' m' t' r -> t' <= t + 60 -> H' a = some (.tup [.ref tp, .ref lp]) -> H tp = none -> H lp = none -> H' tp = some (.lst (ts.map V.ref)) -> ts.length = tr.length -> (∀ (j : Nat) t x, ts[j]? = some t -> tr[j]? = some x -> H' t = some (.tup [.str x.1, eldV x.2])) -> TrOk tr -> tr ≠ [] -> tr.length <= 12 -> H' lp = some (.lst (late.map V.str)) -> (∀ x ∈ late, x ∈ tr.map (·.1)) -> late.length <= 12 -> (∃ x ∈ tr.map (·.1), x ∉ late) -> Q (.ref a) H') : xt1  vs H Q
def xd3 : Sp := fun vs H Q _ => xt1  vs H Q
section
variable {P : Program} {w : World} {K : PySem.W.Frag} {mg : Str -> Option Value} {base : Heap} {f : Addr} {fd : FuncData}
abbrev nTree : List Str := ["_law_hand_here", "_law_many", "_law_names", "_law_way", "_law_tree_here", "_law_late", "_law_k", "_law_name", "_law_elder"]
theorem zn8 : zd3 nTree ["_law_hand_here"] (zb7 yx9) := ⟨rfl, rfl, rfl, by decide +kernel, rfl, by decide +kernel, by decide +kernel⟩
set_option maxHeartbeats 4000000 in
theorem xx2 {k : Nat} (F : Fun K "_law_tree" "_law_tree" yx9 f fd) (T : Cal P w K mg base k "_law_take" ["_law_hand_here", "_law_many"] zh5) (O : Cal P w K mg base k "_law_of" ["_law_hand_here", "_law_some"] (spOf K))
  (W : Cal P w K mg base k "_law_words" ["_law_hand_here", "_law_many"] yd8) (ml : mg "len" = none) (me : mg "enumerate" = none) : FnOk P w K mg base CX0 (k + 1) f fd ["_law_hand_here"] xd3 := by
 obtain ⟨g, gd, GT, bT, kT, mT⟩ := T.ex
 obtain ⟨g2, gd2, GO, bO, kO, mO⟩ := O.ex
 obtain ⟨g3, gd3, GW, bW, kW, mW⟩ := W.ex
 refine F.ok zn8 (fun vs H Q E h => ?_) (fun cdv A outer s H vs Q E hr h => ?_)
 ·obtain ⟨hd, d, m, t, r, rfl, _⟩ := h
  rfl
 obtain ⟨hd, d, m, t, r, rfl, hh, ht, q⟩ := h
 have hu := zm7 hr
 refine ⟨_, zb3 (zc3 (i := 1) zn8.nd rfl (Or.inl rfl) (zb8 GO hr rfl mO kO bO .nil zc6 (zb0 (pv 0) (zb0 (zd7 (zf3 (zf3 (zf3 (zf3 (zf3 (zf3 (zf3 (zf3 zb2))))))))) zb2))))
  (zb3 (zc3 (i := 2) zn8.nd rfl (Or.inl rfl) (zb8 GW hr rfl mW kW bW .nil zc6 (zb0 (pv 0) (zb0 (pv 1) zb2))))
  (zb3 (zc3 (i := 3) zn8.nd rfl (Or.inl rfl) (zb8 GT hr rfl mT kT bT .nil zc6 (zb0 (pv 0) (zb0 zb6 zb2))))
  (zb3 (zc3 (i := 4) zn8.nd rfl (Or.inl rfl) (zd7 zb2))
  (zb3 (zc3 (i := 5) zn8.nd rfl (Or.inl rfl) (zd7 zb2))
  (zb3 (zg6 PassesOwn.never rfl (xj8 rfl me (zb0 (pv 2) zb2)) (zh4 (n := 2) rfl (zc1 (zc0 (i := 6) zn8.nd rfl (Or.inl rfl)) (zc1 (zc0 (i := 7) zn8.nd rfl (Or.inl rfl)) zg4)))
   (zb3 (zc3 (i := 8) zn8.nd rfl (Or.inl rfl) xf3)
   (zb3 (zh9 (PW.pt (zn4 (zc7 yd3 (pv 6) zb6 (zd8 _)) (zk9 (zc7 yd3 (zb8 GT hr rfl mT kT bT .nil zc6 (zb0 (pv 0) (zb0 zb6 zb2))) zb6 (zd8 _)))))
    (zb9 (zc3 (i := 8) zn8.nd rfl (Or.inl rfl) (eI (pv 2) (eI (zd7 (zb0 (zf7 zt8 (pv 6) zb6) (zb0 zb6 (zb0 (zf7 zx7 (zf7 zt8 (pv 6) zb6) zb6) (zb0 (zb8 GT hr rfl mT kT bT .nil zc6 (zb0 (pv 0) (zb0 (pv 6) zb2))) zb2))))) (pv 3))))) zd9)
   (zb3 (zh9 (PW.pt (zn4 (zc7 zg9 (pv 8) (pv 5) rfl) (zk9 (zc7 zp1 (zd6 zf4 rfl ml PySem.boot_len (zb0 (pv 5) zb2)) zb6 (zd8 _))))) (zb9 (zc3 (i := 8) zn8.nd rfl (Or.inl rfl) xf3)) zd9)
   (zb3 (zh9 (PW.pt (yn2 (zc7 zg9 (pv 8) (pv 5) rfl) (zx9 (PW.pt (zn4 (zc7 xc0 (zd6 zf4 rfl ml PySem.boot_len (zb0 (pv 5) zb2)) zb6 (zd8 _)) (zn4 (zc7 yd3 (pv 6) zb6 (zd8 _)) (zk9 (zc7 zp1 (zb8 GT hr rfl mT kT bT .nil zc6 (zb0 (pv 0) (zb0 zb6 zb2))) zb6 (zd8 _)))))))))
    (zb9 (zg2 (zk6 PySem.F.plainAttrs_list PySem.F.slot_list_append PySem.F.type_list_append zf0 (pv 5) (zb0 (pv 7) zb2)))) zd9)
   (zb9 (zg2 (zk6 PySem.F.plainAttrs_list PySem.F.slot_list_append PySem.F.type_list_append zf0 (pv 4) (zb0 (zf6 (zb0 (pv 7) (zb0 (pv 8) zb2))) zb2)))))))))
  (zb9 (zd4 (zf6 (zb0 (pv 4) (zb0 (pv 5) zb2)))))))))), ?_⟩
 first | dsimp only [cxOf, Cx.nox] | skip
 have s1 : ∀ {n : Nat}, n <= 1000 -> n < sizeLine := fun h => zc2 h
 refine ⟨_, rfl, by show 8 <= sizeLine; exact Nat.le_of_lt (s1 (by decide)), fun p0 hp0 => ?_⟩
 have h0d : p0 ≠ hd := fun z => by rw [z, hh.1] at hp0; cases hp0
 have hh0 : Hand (upd H p0 (.lst [V.int 1, V.int 2, V.int 3, V.int 4, V.int 5, V.int 6, V.int 8, V.int 12])) hd d m t r := hh.new hp0
 have f0 : FrS [hd] H (upd H p0 (.lst [V.int 1, V.int 2, V.int 3, V.int 4, V.int 5, V.int 6, V.int 8, V.int 12])) := FrS.new hp0
 have hq0 : upd H p0 (.lst [V.int 1, V.int 2, V.int 3, V.int 4, V.int 5, V.int 6, V.int 8, V.int 12]) p0 = some (.lst [V.int 1, V.int 2, V.int 3, V.int 4, V.int 5, V.int 6, V.int 8, V.int 12]) := zb1
 generalize upd H p0 (.lst [V.int 1, V.int 2, V.int 3, V.int 4, V.int 5, V.int 6, V.int 8, V.int 12]) = H0 at hh0 f0 hq0
 refine ⟨hd, p0, d, m, t, r, _, rfl, hh0, by omega, h0d, SqL.of hq0, by simp, by show 8 < 1000; decide, fun x d1 m1 t1 hx c1 e1 => ?_⟩
 obtain ⟨n, rfl, n1, n12⟩ : ∃ n : Nat, x = .int (n : Int) /\ 1 <= n /\ n <= 12 := by
  simp only [List.mem_cons, List.not_mem_nil, or_false] at hx
  rcases hx with rfl | rfl | rfl | rfl | rfl | rfl | rfl | rfl
  ·exact ⟨1, rfl, by decide, by decide⟩
  ·exact ⟨2, rfl, by decide, by decide⟩
  ·exact ⟨3, rfl, by decide, by decide⟩
  ·exact ⟨4, rfl, by decide, by decide⟩
  ·exact ⟨5, rfl, by decide, by decide⟩
  ·exact ⟨6, rfl, by decide, by decide⟩
  ·exact ⟨8, rfl, by decide, by decide⟩
  ·exact ⟨12, rfl, by decide, by decide⟩
 have f1 : FrS [hd] H (upd H0 hd (hl d1 m1 t1 r)) := f0.put' (by trivial)
 have hh1 : Hand (upd H0 hd (hl d1 m1 t1 r)) hd d1 m1 t1 r := Hand.at c1
 generalize upd H0 hd (hl d1 m1 t1 r) = H1 at f1 hh1
 refine ⟨_, rfl, _, rfl, hd, d1, m1, t1, r, n, rfl, hh1, by omega, n12, fun pn ws d2 m2 t2 H2 f2 hh2 ht2 hpn hpn2 hwl hwn => ?_⟩
 have f02 := f1.trans f2
 refine ⟨_, rfl, hd, d2, m2, t2, r, 4, rfl, hh2, by omega, by decide, by decide, fun way d3 m3 t3 w0 w1 c3 e3 => ?_⟩
 have f03 : FrS [hd] H (upd H2 hd (hl d3 m3 t3 r)) := f02.put' (by trivial)
 have hh3 : Hand (upd H2 hd (hl d3 m3 t3 r)) hd d3 m3 t3 r := Hand.at c3
 have hpn3 : upd H2 hd (hl d3 m3 t3 r) pn = some (.lst (ws.map V.str)) := by rw [zb5 (zj0 hpn2 hh2)]; exact hpn2
 generalize upd H2 hd (hl d3 m3 t3 r) = H3 at f03 hh3 hpn3
 refine ⟨Nat.zero_le _, fun pt hpt => ?_⟩
 have hh4 := hh3.new (o := .lst []) hpt
 have f04 : FrS [hd] H (upd H3 pt (.lst [])) := f03.trans (FrS.new hpt)
 have hpn4 : upd H3 pt (.lst []) pn = some (.lst (ws.map V.str)) := by rw [zb5 (zb4 hpn3 hpt)]; exact hpn3
 have hpt4 : upd H3 pt (.lst []) pt = some (.lst []) := zb1
 have hptH : H pt = none := zs8 f03 hh3 hpt
 have hpnt : pn ≠ pt := zb4 hpn3 hpt
 generalize upd H3 pt (.lst []) = H4 at hh4 f04 hpn4 hpt4
 refine ⟨Nat.zero_le _, fun pl hpl => ?_⟩
 have hh5 := hh4.new (o := .lst []) hpl
 have f05 : FrS [hd] H (upd H4 pl (.lst [])) := f04.trans (FrS.new hpl)
 have hpn5 : upd H4 pl (.lst []) pn = some (.lst (ws.map V.str)) := by rw [zb5 (zb4 hpn4 hpl)]; exact hpn4
 have hpt5 : upd H4 pl (.lst []) pt = some (.lst []) := by rw [zb5 (zb4 hpt4 hpl)]; exact hpt4
 have hpl5 : upd H4 pl (.lst []) pl = some (.lst []) := zb1
 have hplH : H pl = none := zs8 f04 hh4 hpl
 have hpnl : pn ≠ pl := zb4 hpn4 hpl
 have hptl : pt ≠ pl := zb4 hpt4 hpl
 generalize upd H4 pl (.lst []) = H5 at hh5 f05 hpn5 hpt5 hpl5
 have hpnd : pn ≠ hd := zj0 hpn5 hh5
 have hptd : pt ≠ hd := fun z => by rw [z, hh.1] at hptH; cases hptH
 have hpld : pl ≠ hd := fun z => by rw [z, hh.1] at hplH; cases hplH
 refine ⟨_, rfl, pn, _, rfl, SqL.of hpn5, ?_⟩
 refine xq7 (xs := ws.map V.str) (yx7 H hd pn pt pl n way t r ws)
  ⟨_, _, _, d3, m3, t3, [], [], [], rfl, f05, hh5, by omega, hpn5, hpt5, hpl5, rfl, rfl, TrOk.nil, (fun j t x h => by simp at h), by simp, by simp⟩ ?_ ?_ ?_
 ·rintro i σ Hx hi ⟨_, _, _, _, _, _, _, _, _, _, _, _, _, hpnx, _⟩
  exact SqL.of hpnx
 ·rintro i x p σ Hx hx ⟨kx, nx, ex, dx, mx, tx, tr, ts, late, rfl, fx, hhx, htx, hpnx, hptx, hplx, htl, htr, hok, htt, hll, hlm⟩ hp
  obtain ⟨hi, _⟩ := List.getElem?_eq_some_iff.mp hx
  rw [lqm] at hi
  rw [List.getElem?_map, List.getElem?_eq_getElem hi] at hx
  cases hx
  have hwi : ws[i]? = some ws[i] := List.getElem?_eq_getElem hi
  refine ⟨p, _, rfl, SqT.of zb1, rfl, _, _, rfl, _, _, rfl, rfl, ?_⟩
  have keep : ∀ b o, Hx b = some o -> upd Hx p (.tup [V.int (i : Nat), V.str ws[i]]) b = some o := fun b o e => by rw [zb5 (zb4 e hp)]; exact e
  have fx1 : FrS [hd] H (upd Hx p (.tup [V.int (i : Nat), V.str ws[i]])) := fx.trans (FrS.new hp)
  have hhx1 : Hand (upd Hx p (.tup [V.int (i : Nat), V.str ws[i]])) hd dx mx tx r := hhx.new hp
  have htt1 : ∀ (j : Nat) t x, ts[j]? = some t -> tr[j]? = some x -> upd Hx p (.tup [V.int (i : Nat), V.str ws[i]]) t = some (.tup [.str x.1, eldV x.2]) := fun j t x a b => keep _ _ (htt j t x a b)
  have hpn1 := keep _ _ hpnx
  have hpt1 := keep _ _ hptx
  have hpl1 := keep _ _ hplx
  generalize upd Hx p (.tup [V.int (i : Nat), V.str ws[i]]) = Hy at fx1 hhx1 htt1 hpn1 hpt1 hpl1
  have fin : ∀ (e : Option Str) (late' : List Str) (Hz : Hp) (dz mz tz : Int), (∀ x, e = some x -> x ∈ ws.take i) -> FrS [hd] H Hz -> Hand Hz hd dz mz tz r -> tz <= t + 12 + 3 * ((i + 1 : Nat) : Int) -> Hz pn = some (.lst (ws.map V.str)) -> Hz pt = some (.lst (ts.map V.ref)) -> Hz pl = some (.lst (late'.map V.str)) ->
    (∀ (j : Nat) t x, ts[j]? = some t -> tr[j]? = some x -> Hz t = some (.tup [.str x.1, eldV x.2])) -> late'.length <= i + 1 -> (∀ x ∈ late', ∃ j, 1 <= j /\ j < i + 1 /\ ws[j]? = some x) ->
    yv4 (tBM K "list" zq1 (tVar 4) (zc4 (tTup (zc4 (tVar 7) (zc4 (tVar 8) tNil))) tNil))
    ⟨yx7 H hd pn pt pl n way t r ws (i + 1), fun _ _ => False, fun _ _ => False, fun _ _ => False⟩
    [some (.ref hd), some (.int (n : Int)), some (.ref pn), some (.int way), some (.ref pt), some (.ref pl), some (.int (i : Nat)), some (.str ws[i]), some (eldV e)] Hz := by
   intro e late' Hz dz mz tz he fz hhz htz hpnz hptz hplz httz hlz hlmz
   refine ⟨_, rfl, .inl ⟨rfl, _, SqL.of hptz⟩, _, rfl, _, rfl, by show 2 <= sizeLine; exact Nat.le_of_lt (s1 (by decide)), fun pp hpp => ?_⟩
   have hpt' : upd Hz pp (.tup [V.str ws[i], eldV e]) pt = some (.lst (ts.map V.ref)) := by rw [zb5 (zb4 hptz hpp)]; exact hptz
   have hppt : pp ≠ pt := fun z => by rw [z, hptz] at hpp; cases hpp
   have hn : ws[i] ∉ tr.map (·.1) := by
    rw [htr]
    intro hm
    obtain ⟨j, hj, ej⟩ := List.getElem_of_mem hm
    rw [List.length_take] at hj
    rw [List.getElem_take] at ej
    have := (List.getElem_inj hwn).mp ej
    omega
   refine ⟨pt, _, _, rfl, rfl, hpt', by rw [lqm]; exact s1 (by omega), _, _, _, dz, mz, tz, tr ++ [(ws[i], e)], ts ++ [pp], late', rfl, (fz.trans (FrS.new hpp)).put hptH, ?_, htz, ?_, ?_, ?_, ?_, ?_, ?_, ?_, hlz, hlmz⟩
   ·exact ⟨by rw [zb5 hptd.symm, zb5 (zb4 hhz.1 hpp)]; exact hhz.1, hhz.2⟩
   ·rw [zb5 hpnt, zb5 (zb4 hpnz hpp)]; exact hpnz
   ·rw [zb1, List.map_append]; rfl
   ·rw [zb5 hptl.symm, zb5 (zb4 hplz hpp)]; exact hplz
   ·rw [List.length_append, htl]; rfl
   ·rw [List.map_append, htr, List.take_add_one, hwi]; rfl
   ·exact hok.snoc hn fun x hx => by rw [htr]; exact he x hx
   ·intro j t' x ht' hx
    have htrl : tr.length = ts.length := by
     have := congrArg List.length htr
     rw [lqm, List.length_take] at this
     omega
    by_cases hj : j < ts.length
    ·rw [List.getElem?_append_left hj] at ht'
     rw [List.getElem?_append_left (by omega)] at hx
     have h3 := httz j t' x ht' hx
     have h4 : upd Hz pp (.tup [V.str ws[i], eldV e]) t' = some (.tup [.str x.1, eldV x.2]) := by rw [zb5 (zb4 h3 hpp)]; exact h3
     rw [zb5 (fun z => by rw [z, hpt'] at h4; cases h4)]
     exact h4
    ·rw [List.getElem?_append_right (by omega)] at ht'
     rw [List.getElem?_append_right (by omega), htrl] at hx
     have h0 : j - ts.length = 0 := by
      cases hz : j - ts.length with
      | zero => rfl
      | succ k => rw [hz] at ht'; simp at ht'
     rw [h0] at ht' hx
     simp only [List.getElem?_cons_zero, Option.some.injEq] at ht' hx
     subst ht' hx
     rw [zb5 hppt]
     exact zb1
  have mid : ∀ (e : Option Str) (Hz : Hp) (dz mz tz : Int), (∀ x, e = some x -> x ∈ ws.take i) -> (i = 0 -> e = none) -> FrS [hd] H Hz -> Hand Hz hd dz mz tz r -> tz <= t + 14 + 3 * (i : Int) -> Hz pn = some (.lst (ws.map V.str)) -> Hz pt = some (.lst (ts.map V.ref)) -> Hz pl = some (.lst (late.map V.str)) ->
    (∀ (j : Nat) t x, ts[j]? = some t -> tr[j]? = some x -> Hz t = some (.tup [.str x.1, eldV x.2])) ->
    tSeq (tIfS (tOr (zm4 (tOp (rIn K false) (tVar 8) (tVar 5))) (tAnd (zm4 (tOp (rI0 fun i j => .bl (decide (i < j))) (tCB (fun xs H Q => ∃ p ys, xs = [.ref p] /\ (SqL K H p ys ∨ SqT K H p ys) /\ Q (.int ys.length) H) (zc4 (tVar 5) tNil)) (tC (.int 6)))) (tAnd (zm4 (tOp (rI0 fun i j => .bl (decide (j < i))) (tVar 6) (tC (.int 0)))) (zm4 (tOp rEq (zm2 zh5 [] E0 (zc4 (tVar 0) (zc4 (tC (.int 4)) tNil))) (tC (.int 0)))))))
     (yv4 (tBM K "list" zq1 (tVar 5) (zc4 (tVar 7) tNil))) ym7)
    (yv4 (tBM K "list" zq1 (tVar 4) (zc4 (tTup (zc4 (tVar 7) (zc4 (tVar 8) tNil))) tNil)))
    ⟨yx7 H hd pn pt pl n way t r ws (i + 1), fun _ _ => False, fun _ _ => False, fun _ _ => False⟩
    [some (.ref hd), some (.int (n : Int)), some (.ref pn), some (.int way), some (.ref pt), some (.ref pl), some (.int (i : Nat)), some (.str ws[i]), some (eldV e)] Hz := by
   intro e Hz dz mz tz he he0 fz hhz htz hpnz hptz hplz httz
   have fl : zw1 (eldV e) = true := by cases e <;> rfl
   have app : 1 <= i -> ∀ (Hv : Hp) (dv mv tv : Int), FrS [hd] H Hv -> Hand Hv hd dv mv tv r -> tv <= t + 15 + 3 * (i : Int) -> Hv pn = some (.lst (ws.map V.str)) -> Hv pt = some (.lst (ts.map V.ref)) -> Hv pl = some (.lst (late.map V.str)) ->
     (∀ (j : Nat) t x, ts[j]? = some t -> tr[j]? = some x -> Hv t = some (.tup [.str x.1, eldV x.2])) -> _ := fun h1 Hv dv mv tv fv hhv htv hpnv hptv hplv httv =>
    fin e (late ++ [ws[i]]) (upd Hv pl (.lst (late.map V.str ++ [V.str ws[i]]))) dv mv tv he (fv.put hplH) ⟨by rw [zb5 hpld.symm]; exact hhv.1, hhv.2⟩ (by omega) (by rw [zb5 hpnl]; exact hpnv) (by rw [zb5 hptl]; exact hptv) (by rw [zb1, List.map_append]; rfl)
     (fun j t x a b => by have h3 := httv j t x a b; rw [zb5 (fun z => by rw [z, hplv] at h3; cases h3)]; exact h3) (by rw [List.length_append, List.length_singleton]; omega)
     (fun x hx => by
      rcases List.mem_append.mp hx with h | h
      ·obtain ⟨j, j1, j2, j3⟩ := hlm x h
       exact ⟨j, j1, by omega, j3⟩
      ·rw [List.mem_singleton.mp h]; exact ⟨i, h1, by omega, hwi⟩)
   have noa : ∀ (Hv : Hp) (dv mv tv : Int), FrS [hd] H Hv -> Hand Hv hd dv mv tv r -> tv <= t + 15 + 3 * (i : Int) -> Hv pn = some (.lst (ws.map V.str)) -> Hv pt = some (.lst (ts.map V.ref)) -> Hv pl = some (.lst (late.map V.str)) ->
     (∀ (j : Nat) t x, ts[j]? = some t -> tr[j]? = some x -> Hv t = some (.tup [.str x.1, eldV x.2])) -> _ := fun Hv dv mv tv fv hhv htv hpnv hptv hplv httv =>
    fin e late Hv dv mv tv he fv hhv (by omega) hpnv hptv hplv httv (by omega) (fun x hx => by
      obtain ⟨j, j1, j2, j3⟩ := hlm x hx
      exact ⟨j, j1, by omega, j3⟩)
   refine ⟨_, rfl, _, rfl, pl, _, rfl, .inl (SqL.of hplz), fl, zg7 _, _, rfl, ?_⟩
   refine ite2 (fun c => ?_) (fun c => ?_)
   ·have h1 : 1 <= i := by
     rcases Nat.eq_zero_or_pos i with h | h
     ·exfalso
      rw [he0 h] at c
      have : late = [] := List.length_eq_zero_iff.mp (by omega)
      rw [this] at c
      cases c
     ·exact h
    exact ⟨_, rfl, .inl ⟨rfl, _, SqL.of hplz⟩, _, rfl, pl, _, _, rfl, rfl, hplz, by rw [lqm]; exact s1 (by omega), app h1 Hz dz mz tz fz hhz (by omega) hpnz hptz hplz httz⟩
   ·refine ⟨_, rfl, pl, _, rfl, .inl (SqL.of hplz), _, _, rfl, rfl, _, rfl, ?_⟩
    refine ite2 (fun c2 => ?_) (fun c2 => noa Hz dz mz tz fz hhz (by omega) hpnz hptz hplz httz)
    refine ⟨_, rfl, _, _, rfl, rfl, _, rfl, ?_⟩
    refine ite2 (fun c3 => ?_) (fun c3 => noa Hz dz mz tz fz hhz (by omega) hpnz hptz hplz httz)
    have h1 : (0 : Int) < (i : Int) := of_decide_eq_true c3
    refine ⟨_, rfl, hd, dz, mz, tz, r, 4, rfl, hhz, by omega, by decide, by decide, fun y dv mv tv y0 y1 cv ev => ⟨rfl, _, rfl, ?_⟩⟩
    have hhv : Hand (upd Hz hd (hl dv mv tv r)) hd dv mv tv r := Hand.at cv
    have fv : FrS [hd] H (upd Hz hd (hl dv mv tv r)) := fz.put' (by trivial)
    have hpnv : upd Hz hd (hl dv mv tv r) pn = some (.lst (ws.map V.str)) := by rw [zb5 hpnd]; exact hpnz
    have hptv : upd Hz hd (hl dv mv tv r) pt = some (.lst (ts.map V.ref)) := by rw [zb5 hptd]; exact hptz
    have hplv : upd Hz hd (hl dv mv tv r) pl = some (.lst (late.map V.str)) := by rw [zb5 hpld]; exact hplz
    have httv : ∀ (j : Nat) t x, ts[j]? = some t -> tr[j]? = some x -> upd Hz hd (hl dv mv tv r) t = some (.tup [.str x.1, eldV x.2]) := fun j t x a b => by
     have h3 := httz j t x a b
     rw [zb5 (fun z => by rw [z, hhz.1] at h3; cases h3)]
     exact h3
    refine ite2 (fun c4 => ?_) (fun c4 => noa _ dv mv tv fv hhv (by omega) hpnv hptv hplv httv)
    exact ⟨_, rfl, .inl ⟨rfl, _, SqL.of hplv⟩, _, rfl, pl, _, _, rfl, rfl, hplv, by rw [lqm]; exact s1 (by omega), app (by omega) _ dv mv tv fv hhv (by omega) hpnv hptv hplv httv⟩
  have mid2 : ∀ (e : Option Str) (Hz : Hp) (dz mz tz : Int), (∀ x, e = some x -> x ∈ ws.take i) -> (i = 0 -> e = none) -> FrS [hd] H Hz -> Hand Hz hd dz mz tz r -> tz <= t + 14 + 3 * (i : Int) -> Hz pn = some (.lst (ws.map V.str)) -> Hz pt = some (.lst (ts.map V.ref)) -> Hz pl = some (.lst (late.map V.str)) ->
    (∀ (j : Nat) t x, ts[j]? = some t -> tr[j]? = some x -> Hz t = some (.tup [.str x.1, eldV x.2])) -> ∀ R : TS, (∀ e' : Option Str, (∀ x, e' = some x -> x ∈ ws.take i) -> (i = 0 -> e' = none) -> R ⟨yx7 H hd pn pt pl n way t r ws (i + 1), fun _ _ => False, fun _ _ => False, fun _ _ => False⟩ [some (.ref hd), some (.int (n : Int)), some (.ref pn), some (.int way), some (.ref pt), some (.ref pl), some (.int (i : Nat)), some (.str ws[i]), some (eldV e')] Hz) ->
    tSeq (tIfS (tAnd (zm4 (tOp (rIn K false) (tVar 8) (tVar 5))) (zm4 (tOp rEq (tCB (fun xs H Q => ∃ p ys, xs = [.ref p] /\ (SqL K H p ys ∨ SqT K H p ys) /\ Q (.int ys.length) H) (zc4 (tVar 5) tNil)) (tC (.int 6))))) (tAsg (tC .non) (zf8 8)) ym7) R
    ⟨yx7 H hd pn pt pl n way t r ws (i + 1), fun _ _ => False, fun _ _ => False, fun _ _ => False⟩
    [some (.ref hd), some (.int (n : Int)), some (.ref pn), some (.int way), some (.ref pt), some (.ref pl), some (.int (i : Nat)), some (.str ws[i]), some (eldV e)] Hz := by
   intro e Hz dz mz tz he he0 fz hhz htz hpnz hptz hplz httz R hR
   have fl : zw1 (eldV e) = true := by cases e <;> rfl
   refine ⟨_, rfl, _, rfl, pl, _, rfl, .inl (SqL.of hplz), fl, zg7 _, _, rfl, ?_⟩
   refine ite2 (fun c => ?_) (fun c => hR e he he0)
   refine ⟨_, rfl, pl, _, rfl, .inl (SqL.of hplz), rfl, _, rfl, ?_⟩
   refine ite2 (fun c => ?_) (fun c => hR e he he0)
   exact hR none (fun x hx => nomatch hx) (fun _ => rfl)
  refine ⟨_, rfl, _, _, rfl, rfl, _, rfl, ?_⟩
  refine ite2 (fun c => ?_) (fun c => ?_)
  rotate_left
  ·exact mid2 none Hy dx mx tx (fun x hx => nomatch hx) (fun _ => rfl) fx1 hhx1 (by omega) hpn1 hpt1 hpl1 htt1 _ fun e' he' he0' => mid e' Hy dx mx tx he' he0' fx1 hhx1 (by omega) hpn1 hpt1 hpl1 htt1
  have hi1 : (0 : Int) < (i : Int) := of_decide_eq_true c
  refine ⟨_, rfl, hd, dx, mx, tx, r, 6, rfl, hhx1, by omega, by decide, by decide, fun y dv mv tv y0 y1 cv ev => ⟨_, _, rfl, rfl, _, rfl, ?_⟩⟩
  have hhv : Hand (upd Hy hd (hl dv mv tv r)) hd dv mv tv r := Hand.at cv
  have fv : FrS [hd] H (upd Hy hd (hl dv mv tv r)) := fx1.put' (by trivial)
  have hpnv : upd Hy hd (hl dv mv tv r) pn = some (.lst (ws.map V.str)) := by rw [zb5 hpnd]; exact hpn1
  have hptv : upd Hy hd (hl dv mv tv r) pt = some (.lst (ts.map V.ref)) := by rw [zb5 hptd]; exact hpt1
  have hplv : upd Hy hd (hl dv mv tv r) pl = some (.lst (late.map V.str)) := by rw [zb5 hpld]; exact hpl1
  have httv : ∀ (j : Nat) t x, ts[j]? = some t -> tr[j]? = some x -> upd Hy hd (hl dv mv tv r) t = some (.tup [.str x.1, eldV x.2]) := fun j t x a b => by
   have h3 := htt1 j t x a b
   rw [zb5 (fun z => by rw [z, hhx1.1] at h3; cases h3)]
   exact h3
  generalize upd Hy hd (hl dv mv tv r) = Hv at hhv fv hpnv hptv hplv httv
  refine ite2 (fun c => ?_) (fun c => ?_)
  rotate_left
  ·exact mid2 none Hv dv mv tv (fun x hx => nomatch hx) (fun _ => rfl) fv hhv (by omega) hpnv hptv hplv httv _ fun e' he' he0' => mid e' Hv dv mv tv he' he0' fv hhv (by omega) hpnv hptv hplv httv
  refine ⟨_, rfl, _, rfl, _, _, rfl, rfl, _, rfl, _, _, rfl, rfl, _, _, rfl, rfl, ⟨by decide, by decide⟩, _, rfl, _, rfl, hd, dv, mv, tv, r, _, rfl, hhv, by omega, by omega, by omega, fun z du mu tu z0 z1 cu eu => ⟨by show 4 <= sizeLine; exact Nat.le_of_lt (s1 (by decide)), fun p4 hp4 => ?_⟩⟩
  have hhu0 : Hand (upd Hv hd (hl du mu tu r)) hd du mu tu r := Hand.at cu
  have fu0 : FrS [hd] H (upd Hv hd (hl du mu tu r)) := fv.put' (by trivial)
  have kp : ∀ b o, b ≠ hd -> Hv b = some o -> upd (upd Hv hd (hl du mu tu r)) p4 (.lst [V.int ((i : Int) - 1), V.int 0, V.int (((i : Int) - 1) / 2), V.int z]) b = some o := fun b o n e => by
   have h1 : upd Hv hd (hl du mu tu r) b = some o := by rw [zb5 n]; exact e
   rw [zb5 (zb4 h1 hp4)]; exact h1
  have hhu := hhu0.new (o := .lst [V.int ((i : Int) - 1), V.int 0, V.int (((i : Int) - 1) / 2), V.int z]) hp4
  have fu : FrS [hd] H (upd (upd Hv hd (hl du mu tu r)) p4 (.lst [V.int ((i : Int) - 1), V.int 0, V.int (((i : Int) - 1) / 2), V.int z])) := fu0.trans (FrS.new hp4)
  have hp5 : upd (upd Hv hd (hl du mu tu r)) p4 (.lst [V.int ((i : Int) - 1), V.int 0, V.int (((i : Int) - 1) / 2), V.int z]) p4 = some (.lst [V.int ((i : Int) - 1), V.int 0, V.int (((i : Int) - 1) / 2), V.int z]) := zb1
  have hpnu := kp _ _ hpnd hpnv
  have hptu := kp _ _ hptd hptv
  have hplu := kp _ _ hpld hplv
  have httu : ∀ (j : Nat) t x, ts[j]? = some t -> tr[j]? = some x -> upd (upd Hv hd (hl du mu tu r)) p4 (.lst [V.int ((i : Int) - 1), V.int 0, V.int (((i : Int) - 1) / 2), V.int z]) t = some (.tup [.str x.1, eldV x.2]) := fun j t x a b => by
   have h3 := httv j t x a b
   exact kp _ _ (fun w => by rw [w, hhv.1] at h3; cases h3) h3
  generalize upd (upd Hv hd (hl du mu tu r)) p4 (.lst [V.int ((i : Int) - 1), V.int 0, V.int (((i : Int) - 1) / 2), V.int z]) = Hu at hhu fu hp5 hpnu hptu hplu httu
  obtain ⟨ix, hix, ix0, ix1⟩ : ∃ ix : Nat, atI [V.int ((i : Int) - 1), V.int 0, V.int (((i : Int) - 1) / 2), V.int z] way = some (.int (ix : Int)) /\ 0 <= ix /\ ix < i := by
   have hc : way = 0 ∨ way = 1 ∨ way = 2 ∨ way = 3 := by omega
   rcases hc with rfl | rfl | rfl | rfl
   ·exact ⟨i - 1, by rw [at0]; congr 2; omega, by omega, by omega⟩
   ·exact ⟨0, by rw [at1]; rfl, by omega, by omega⟩
   ·exact ⟨(((i : Int) - 1) / 2).toNat, by rw [at2]; congr 2; omega, by omega, by omega⟩
   ·exact ⟨z.toNat, by rw [at3]; congr 2; omega, by omega, by omega⟩
  have hwx : atI (ws.map V.str) (ix : Int) = some (.str (ws[ix]'(by omega))) := zq2 (by rw [List.getElem?_map, List.getElem?_eq_getElem (by omega)]; rfl)
  refine ⟨_, rfl, p4, _, _, _, rfl, rfl, SqL.of hp5, hix, pn, _, _, _, rfl, rfl, SqL.of hpnu, hwx, ?_⟩
  have hme : ∀ x, some (ws[ix]'(by omega)) = some x -> x ∈ ws.take i := fun x hx => by
   cases hx
   have : (ws.take i)[ix]? = some (ws[ix]'(by omega)) := by rw [List.getElem?_take_of_lt ix1]; exact List.getElem?_eq_getElem (by omega)
   exact List.mem_of_getElem? this
  exact mid2 (some (ws[ix]'(by omega))) Hu du mu tu hme (fun h => by omega) fu hhu (by omega) hpnu hptu hplu httu _ fun e' he' he0' => mid e' Hu du mu tu he' he0' fu hhu (by omega) hpnu hptu hplu httu
 ·rintro σ Hx ⟨kx, nx, ex, dx, mx, tx, tr, ts, late, rfl, fx, hhx, htx, hpnx, hptx, hplx, htl, htr, hok, htt, hll, hlm⟩
  rw [lqm] at htx htl htr hll hlm
  rw [List.take_of_length_le (Nat.le_refl _)] at htr
  have hlen : tr.length = ws.length := by rw [← htr, lqm]
  refine ⟨_, rfl, _, rfl, by show 2 <= sizeLine; exact Nat.le_of_lt (s1 (by decide)), fun pa hpa => ?_⟩
  have kp : ∀ b o, Hx b = some o -> upd Hx pa (.tup [V.ref pt, V.ref pl]) b = some o := fun b o e => by rw [zb5 (zb4 e hpa)]; exact e
  refine q pa pt pl ts tr late dx mx tx _ (fx.trans (FrS.new hpa)) (hhx.new hpa) (by omega) zb1 hptH hplH (kp _ _ hptx) (by omega) (fun j t x a b => kp _ _ (htt j t x a b)) hok ?_ (by omega) (kp _ _ hplx) ?_ (by omega) ?_
  ·intro z; rw [z] at hlen; simp at hlen; omega
  ·intro x hx
   obtain ⟨j, _, _, j3⟩ := hlm x hx
   rw [htr]
   exact List.mem_of_getElem? j3
  ·have h0 : 0 < ws.length := by omega
   refine ⟨ws[0], by rw [htr]; exact List.getElem_mem h0, fun hm => ?_⟩
   obtain ⟨j, j1, j2, j3⟩ := hlm _ hm
   obtain ⟨j4, j5⟩ := List.getElem?_eq_some_iff.mp j3
   have := (List.getElem_inj hwn).mp j5
   omega
end
end Gn
end
section
namespace Gn
open PySem L2
inductive VF where
 | var (x : Str)
 | cut (x : Str) (lo hi : Option Int)
 | dict0
deriving DecidableEq
def zw2 : Option Expr -> Option (Option Int)
 | none => some none
 | some (.Constant (.int i) _ _) => some (some i)
 | _ => none
def yd1 : Expr -> Option VF
 | .Name x _ => some (.var x)
 | .Subscript (.Name x _) (.Slice lo hi none _) _ => match zw2 lo, zw2 hi with
  | some a, some b => some (.cut x a b)
  | _, _ => none
 | .Dict [] [] _ => some .dict0
 | _ => none
def zq8 : List (Option Expr) -> List Expr -> Option (List (Str × VF))
 | [], [] => some []
 | some (.Constant (.str x) _ _) :: ks, v :: vs => match yd1 v, zq8 ks vs with
  | some f, some r => some ((x, f) :: r)
  | _, _ => none
 | _, _ => none
def ys6 : Expr -> Option (List (Str × VF))
 | .Dict ks vs _ => zq8 ks vs
 | _ => none
def yt6 : List Stmt -> Expr
 | [.Return (some v) _] => v
 | _ :: r => yt6 r
 | [] => .Constant .none 0 ⟨0, 0, 0, 0⟩
def xr5 : List Stmt -> Expr -> List Stmt
 | [.Return (some _) p], v => [.Return (some v) p]
 | a :: r, v => a :: xr5 r v
 | [], _ => []
section
variable {X : Cx}
structure VarAt (X : Cx) (i : Nat) (x : Str) : Prop where
 n : X.N[i]? = some x
 v : Vis X.env.scope x
 d : (x == ("__debug__" : Str)) = false
 c : (x == ("__classdict__" : Str)) = false
def tOpt : Option Int -> TO
 | none => xf6
 | some i => tPart (tC (.int i))
theorem yz3 {e : Option Expr} {o : Option Int} (h : zw2 e = some o) : PO X e (tOpt o) := by
 cases e with
 | none => cases h; exact zm1
 | some e =>
  cases e with
  | Constant c j pos =>
   cases c with
   | int i => cases h; exact zk8 zb6
   | _ => cases h
  | _ => cases h
inductive FTE (X : Cx) : VF -> TE -> Prop
 | var {i : Nat} {x : Str} (h : VarAt X i x) : FTE X (.var x) (tVar i)
 | cut {i : Nat} {x : Str} {lo hi : Option Int} (h : VarAt X i x) : FTE X (.cut x lo hi) (tSl (rSlL X.K) (tVar i) (tOpt lo) (tOpt hi))
 | dict0 : FTE X .dict0 xt7
theorem xx0 {e : Expr} {f : VF} {t : TE} (h : yd1 e = some f) (ht : FTE X f t) : PE X e t := by
 cases e with
 | Name x p =>
  cases h
  cases ht with
  | var h => exact xf4 h.n h.v h.d h.c
 | Subscript a b pos =>
  cases a with
  | Name x p =>
   cases b with
   | Slice lo hi st p2 =>
    cases st with
    | some z => cases h
    | none =>
     have h : (match zw2 lo, zw2 hi with | some a, some b => some (VF.cut x a b) | _, _ => none) = some f := h
     cases h1 : zw2 lo with
     | none => rw [h1] at h; cases h
     | some a =>
      cases h2 : zw2 hi with
      | none => rw [h1, h2] at h; cases h
      | some b =>
       rw [h1, h2] at h
       cases h
       cases ht with
       | cut q => exact zj8 zs6 (xf4 q.n q.v q.d q.c) (yz3 h1) (yz3 h2)
   | _ => cases h
  | _ => cases h
 | Dict ks vs pos =>
  cases ks with
  | nil =>
   cases vs with
   | nil =>
    cases h
    cases ht
    exact zq9
   | cons _ _ => cases h
  | cons _ _ => cases h
 | _ => cases h
inductive FTs (X : Cx) : List (Str × VF) -> List (TE × TE) -> Prop
 | nil : FTs X [] []
 | cons {x : Str} {f : VF} {t : TE} {fs : List (Str × VF)} {ts : List (TE × TE)} (h : FTE X f t) (r : FTs X fs ts) : FTs X ((x, f) :: fs) ((tC (.str x), t) :: ts)
theorem yt0 {pos : Pos} : ∀ (ks : List (Option Expr)) (vs : List Expr) (fs : List (Str × VF)) (ts : List (TE × TE)), zq8 ks vs = some fs -> FTs X fs ts -> PPs X pos ks vs ts /\ ks.all (·.isSome) = true /\ ks.length = vs.length /\ ks.length = fs.length
 | [], [], fs, ts, h, q => by
  cases h
  cases q
  exact ⟨wb6, rfl, rfl, rfl⟩
 | [], _ :: _, fs, ts, h, q => by cases h
 | none :: _, _, fs, ts, h, q => by
  cases h
 | some k :: ks, [], fs, ts, h, q => by
  cases k with
  | Constant c j p => cases c <;> cases h
  | _ => cases h
 | some k :: ks, v :: vs, fs, ts, h, q => by
  cases k with
  | Constant c j p =>
   cases c with
   | str x =>
    have h : (match yd1 v, zq8 ks vs with | some f, some r => some ((x, f) :: r) | _, _ => none) = some fs := h
    cases h1 : yd1 v with
    | none => rw [h1] at h; cases h
    | some f =>
     cases h2 : zq8 ks vs with
     | none => rw [h1, h2] at h; cases h
     | some r =>
      rw [h1, h2] at h
      cases h
      cases q with
      | cons ht hr =>
       obtain ⟨a, b, c, d⟩ := yt0 ks vs r _ h2 hr
       exact ⟨xp9 zd5 (xx0 h1 ht) a, by rw [List.all_cons, b]; rfl, by rw [List.length_cons, List.length_cons, c], by rw [List.length_cons, List.length_cons, d]⟩
   | _ => cases h
  | _ => cases h
theorem yp6 {e : Expr} {fs : List (Str × VF)} {ts : List (TE × TE)} (h : ys6 e = some fs) (q : FTs X fs ts) (h0 : fs ≠ []) (h15 : fs.length <= 15) : PE X e (tDisp ts) := by
 cases e with
 | Dict ks vs pos =>
  obtain ⟨a, b, c, d⟩ := yt0 (pos := pos) ks vs fs ts h q
  refine xw3 a b c (fun z => h0 ?_) (by omega)
  rw [z] at d
  exact List.length_eq_zero_iff.mp d.symm
 | _ => cases h
end
end Gn
end
section
namespace Gn
open PySem L2
theorem xp8 {κ : Type} [DecidableEq κ] {kvs : List (κ × V)} {k : κ} {v : V} (h : valV kvs k = some v) : (k, v) ∈ kvs := by
 unfold valV at h
 obtain ⟨p, hp, e⟩ := Option.map_eq_some_iff.mp h
 have h1 := List.mem_of_find?_eq_some hp
 have h3 := List.find?_some hp
 have h2 : p.1 = k := of_decide_eq_true h3
 rw [← h2, ← e]
 exact h1
theorem xg6 {κ : Type} [DecidableEq κ] : ∀ {kvs : List (κ × V)} {i : Nat} {k : κ} {v : V}, (kvs.map (·.1)).Nodup -> kvs[i]? = some (k, v) -> valV kvs k = some v
 | [], i, k, v, _, h => by simp at h
 | a :: l, 0, k, v, _, h => by
  have : a = (k, v) := by simpa using h
  rw [this]
  exact zh7 rfl
 | a :: l, i + 1, k, v, nd, h => by
  have h' : l[i]? = some (k, v) := by simpa using h
  rw [List.map_cons, List.nodup_cons] at nd
  rw [zh6 (fun e => nd.1 (by rw [e]; exact List.mem_map.mpr ⟨_, List.mem_of_getElem? h', rfl⟩))]
  exact xg6 nd.2 h'
theorem yq0 : ∀ (more kvs : List (Key × V)), ((kvs ++ more).map (·.1)).Nodup -> zg3 kvs more = kvs ++ more
 | [], kvs, _ => by rw [List.append_nil]; rfl
 | a :: l, kvs, nd => by
  have hv : valV kvs a.1 = none := by
   cases e : valV kvs a.1 with
   | none => rfl
   | some v =>
    have h1 := yf7 e
    rw [List.map_append, List.map_cons] at nd
    have := (List.nodup_append.mp nd).2.2 a.1 h1 a.1 (List.mem_cons_self ..)
    exact absurd rfl this
  show zg3 (putK kvs a.1 a.2) l = _
  rw [zv4 _ hv, yq0 l (kvs ++ [(a.1, a.2)]) (by rw [List.append_assoc]; exact nd), List.append_assoc]
  rfl
theorem yb7 : ∀ (more kvs : List (Key × V)), (∀ k, k ∈ (zg3 kvs more).map (·.1) ↔ k ∈ kvs.map (·.1) ∨ k ∈ more.map (·.1))
 | [], kvs, k => by simp [zg3]
 | a :: l, kvs, k => by
  show k ∈ (zg3 (putK kvs a.1 a.2) l).map (·.1) ↔ _
  rw [yb7 l (putK kvs a.1 a.2) k, List.map_cons, List.mem_cons]
  rcases zw6 kvs a.1 a.2 with ⟨e, h⟩ | ⟨e, h⟩
  ·rw [e]
   constructor
   ·rintro (h1 | h1)
    ·exact .inl h1
    ·exact .inr (.inr h1)
   ·rintro (h1 | h1 | h1)
    ·exact .inl h1
    ·rw [h1]; exact .inl h
    ·exact .inr h1
  ·rw [e, List.mem_append, List.mem_singleton]
   constructor
   ·rintro ((h1 | h1) | h1)
    ·exact .inl h1
    ·exact .inr (.inl h1)
    ·exact .inr (.inr h1)
   ·rintro (h1 | h1 | h1)
    ·exact .inl (.inl h1)
    ·exact .inl (.inr h1)
    ·exact .inr h1
theorem xh0 (rs : List Str) (v : V) : ∃ qs : List Str, (zg3 [] (rs.map fun r => ((Sum.inr r : Key), v))).map (fun kv => kV kv.1) = qs.map V.str /\ qs.length <= rs.length /\ ∀ r ∈ rs, r ∈ qs := by
 have hk := yb7 (rs.map fun r => ((Sum.inr r : Key), v)) []
 have key : ∀ l : List (Key × V), (∀ k ∈ l.map (·.1), ∃ x, k = Sum.inr x) -> ∃ qs : List Str, l.map (fun kv => kV kv.1) = qs.map V.str /\ qs.length = l.length /\ ∀ x, (Sum.inr x : Key) ∈ l.map (·.1) -> x ∈ qs := by
  intro l
  induction l with
  | nil => intro _; exact ⟨[], rfl, rfl, by simp⟩
  | cons a l ih =>
   intro h
   obtain ⟨qs, e, el, em⟩ := ih fun k hk => h k (List.mem_cons_of_mem _ hk)
   obtain ⟨x, ex⟩ := h a.1 (by simp)
   refine ⟨x :: qs, by rw [List.map_cons, List.map_cons, e, ex]; rfl, by simp [el], fun y hy => ?_⟩
   rw [List.map_cons, List.mem_cons] at hy
   rcases hy with hy | hy
   ·rw [ex] at hy
    rw [Sum.inr.inj hy]
    exact List.mem_cons_self ..
   ·exact List.mem_cons_of_mem _ (em y hy)
 obtain ⟨qs, e, el, em⟩ := key (zg3 [] (rs.map fun r => ((Sum.inr r : Key), v))) fun k h => by
  rcases (hk k).mp h with h | h
  ·simp at h
  ·rw [List.map_map] at h
   obtain ⟨x, _, ex⟩ := List.mem_map.mp h
   exact ⟨x, ex.symm⟩
 refine ⟨qs, e, ?_, fun r hr => em r ((hk _).mpr (.inr ?_))⟩
 ·have := zj1 (rs.map fun r => ((Sum.inr r : Key), v)) []
  rw [lqm, List.length_nil] at this
  omega
 ·rw [List.map_map]
  exact List.mem_map.mpr ⟨r, hr, rfl⟩
def WantsOk (M : List Addr) (H : Hp) (N : List Str) (wk : List (List Key × V)) (dn : Str -> Str -> Prop) : Prop := ∀ r d, dn r d -> ∃ (p : Addr) (ws : List Str), valV wk [Sum.inr r, Sum.inr d] = some (.ref p) /\ Stt M H p (.lst (ws.map V.str)) /\ ws.length <= 4 /\ ∀ x ∈ ws, x ∈ N
theorem WantsOk.keep {M : List Addr} {H H' : Hp} {N : List Str} {wk : List (List Key × V)} {dn : Str -> Str -> Prop} (h : WantsOk M H N wk dn) (f : FrS M H H') : WantsOk M H' N wk dn := fun r d q => by
 obtain ⟨p, ws, a, b, c⟩ := h r d q
 exact ⟨p, ws, a, b.keep f, c⟩
theorem WantsOk.put {M : List Addr} {H : Hp} {N : List Str} {wk : List (List Key × V)} {dn : Str -> Str -> Prop} {r d : Str} {p : Addr} {ws : List Str} (h : WantsOk M H N wk dn) (hp : Stt M H p (.lst (ws.map V.str))) (hl : ws.length <= 4) (hm : ∀ x ∈ ws, x ∈ N) :
  WantsOk M H N (putK wk [Sum.inr r, Sum.inr d] (.ref p)) (fun a b => dn a b ∨ (a = r /\ b = d)) := fun a b q => by
 by_cases e : ([Sum.inr a, Sum.inr b] : List Key) = [Sum.inr r, Sum.inr d]
 ·exact ⟨p, ws, by rw [zp6, if_pos e], hp, hl, hm⟩
 ·rcases q with q | ⟨rfl, rfl⟩
  ·obtain ⟨p', ws', a1, b1, c1⟩ := h a b q
   exact ⟨p', ws', by rw [zp6, if_neg e]; exact a1, b1, c1⟩
  ·exact absurd rfl e
theorem WantsOk.mono {M : List Addr} {H : Hp} {N : List Str} {wk : List (List Key × V)} {dn dn' : Str -> Str -> Prop} (h : WantsOk M H N wk dn) (f : ∀ r d, dn' r d -> dn r d) : WantsOk M H N wk dn' := fun r d q => h r d (f r d q)
def OwnOk (M : List Addr) (H : Hp) (N : List Str) (ok : List (Key × V)) (dn : Str -> Prop) : Prop := ∀ d, dn d -> ∃ (p : Addr) (os : List Str), valV ok (Sum.inr d) = some (.ref p) /\ Stt M H p (.lst (os.map V.str)) /\ (∀ x ∈ os, x ∈ N) /\ os.length <= 13
theorem OwnOk.keep {M : List Addr} {H H' : Hp} {N : List Str} {ok : List (Key × V)} {dn : Str -> Prop} (h : OwnOk M H N ok dn) (f : FrS M H H') : OwnOk M H' N ok dn := fun d q => by
 obtain ⟨p, os, a, b, c⟩ := h d q
 exact ⟨p, os, a, b.keep f, c⟩
theorem OwnOk.put {M : List Addr} {H : Hp} {N : List Str} {ok : List (Key × V)} {dn : Str -> Prop} {d : Str} {p : Addr} {os : List Str} (h : OwnOk M H N ok dn) (hp : Stt M H p (.lst (os.map V.str))) (hm : ∀ x ∈ os, x ∈ N) (hl : os.length <= 13) :
  OwnOk M H N (putK ok (Sum.inr d) (.ref p)) (fun a => dn a ∨ a = d) := fun a q => by
 by_cases e : (Sum.inr a : Key) = Sum.inr d
 ·exact ⟨p, os, by rw [zp6, if_pos e], hp, hm, hl⟩
 ·rcases q with q | rfl
  ·obtain ⟨p', os', a1, b1, c1⟩ := h a q
   exact ⟨p', os', by rw [zp6, if_neg e]; exact a1, b1, c1⟩
  ·exact absurd rfl e
theorem OwnOk.mono' {M : List Addr} {H : Hp} {N : List Str} {ok : List (Key × V)} {dn dn' : Str -> Prop} (h : OwnOk M H N ok dn) (f : ∀ d, dn' d -> dn d) : OwnOk M H N ok dn' := fun d q => h d (f d q)
def RootsOk (tr : Tr) (i : Nat) (rk : List (Key × V)) : Prop := rk.map (·.1) = (tr.take i).map (fun z => (Sum.inr z.1 : Key)) /\ ∃ rs : List Str, rk.map (·.2) = rs.map V.str
theorem RootsOk.step {tr : Tr} {i : Nat} {rk : List (Key × V)} {n r : Str} {e : Option Str} (ok : TrOk tr) (h : RootsOk tr i rk) (hi : tr[i]? = some (n, e)) : RootsOk tr (i + 1) (putK rk (Sum.inr n) (.str r)) /\ (putK rk (Sum.inr n) (.str r)).length = i + 1 ∨ i > tr.length := by
 left
 have hn : n ∉ (tr.take i).map (·.1) := fun hm => by
  obtain ⟨z, hz, ez⟩ := List.mem_map.mp hm
  obtain ⟨j, hj, ej⟩ := List.getElem_of_mem hz
  rw [List.length_take] at hj
  have e1 : tr[j]? = some (n, z.2) := by rw [List.getElem?_eq_getElem (by omega), ← ez, ← ej, List.getElem_take]
  have := ok.one hi e1
  omega
 have hv : valV rk (Sum.inr n) = none := by
  cases q : valV rk (Sum.inr n) with
  | none => rfl
  | some v =>
   have := yf7 q
   rw [h.1] at this
   obtain ⟨z, hz, ez⟩ := List.mem_map.mp this
   exact absurd (List.mem_map.mpr ⟨z, hz, Sum.inr.inj ez⟩) hn
 obtain ⟨rs, ers⟩ := h.2
 have hlt : i < tr.length := (List.getElem?_eq_some_iff.mp hi).1
 rw [zv4 _ hv]
 refine ⟨⟨?_, rs ++ [r], ?_⟩, ?_⟩
 ·rw [List.map_append, h.1, List.take_add_one, hi, List.map_append]; rfl
 ·rw [List.map_append, ers, List.map_append]; rfl
 ·have := congrArg List.length h.1
  rw [lqm, lqm, List.length_take] at this
  rw [List.length_append, List.length_singleton]
  omega
theorem RootsOk.val {tr : Tr} {i : Nat} {rk : List (Key × V)} (h : RootsOk tr i rk) {k : Key} {v : V} (hv : valV rk k = some v) : ∃ r, v = .str r /\ V.str r ∈ rk.map (·.2) := by
 have hm := xp8 hv
 obtain ⟨rs, e⟩ := h.2
 have : v ∈ rk.map (·.2) := List.mem_map.mpr ⟨_, hm, rfl⟩
 have h2 := this
 rw [e] at this
 obtain ⟨r, _, er⟩ := List.mem_map.mp this
 exact ⟨r, er.symm, by rw [er]; exact h2⟩
theorem xw5 (xs : List V) {a b : Nat} (h : b <= xs.length) (hab : a <= b) : cutV xs (some (a : Int)) (some (b : Int)) = (xs.drop a).take (b - a) := by
 unfold cutV
 rw [HT.yg1, HT.yg1, Nat.min_eq_left h, Nat.min_eq_left (by omega)]
end Gn
end
section
namespace Gn
open PySem L2
inductive DInv (Hb : Hp) (hd tp lp pn pd px pw po pr : Addr) (r t6 : Int) (rk : List (Key × V)) (rs ds : List Str) (tr : Tr) (i : Nat) (σ : St) (Hx : Hp) : Prop
 | mk (nx ex dx sx : Option V) (da ma ta : Int) (wk : List (List Key × V)) (ok : List (Key × V)) (h1 : σ = [some (.ref hd), some (.ref tp), some (.ref lp), some (.ref pn), some (.ref pd), some (.ref px), some (.ref pw), some (.ref po), some (.ref pr), nx, ex, dx, sx])
   (h2 : FrS [hd, pw, po, pr] Hb Hx) (h3 : Hand Hx hd da ma ta r) (h4 : ta <= t6 + 80 * (i : Int)) (h5 : Hx pr = some (.dK rk)) (h6 : Hx pw = some (.dT wk)) (h7 : wk.length <= 12 * i) (h8 : WantsOk [hd, pw, po, pr] Hx (tr.map (·.1)) wk (fun a b => a ∈ rs /\ b ∈ ds.take i)) (h9 : Hx po = some (.dK ok)) (h10 : ok.length <= i) (h11 : OwnOk [hd, pw, po, pr] Hx (tr.map (·.1)) ok (fun b => b ∈ ds.take i)) : DInv Hb hd tp lp pn pd px pw po pr r t6 rk rs ds tr i σ Hx
inductive AInv (H9 : Hp) (hd tp lp pn pd px pw po pr : Addr) (r ta : Int) (rk ok : List (Key × V)) (rs qs : List Str) (tr : Tr) (dsi : List Str) (di : Str) (ex sx : Option V) (i j : Nat) (σ : St) (Hz : Hp) : Prop
 | mk (nx : Option V) (dz mz tz : Int) (wz : List (List Key × V)) (h1 : σ = [some (.ref hd), some (.ref tp), some (.ref lp), some (.ref pn), some (.ref pd), some (.ref px), some (.ref pw), some (.ref po), some (.ref pr), nx, ex, some (.str di), sx])
   (h2 : FrS [hd, pw, po, pr] H9 Hz) (h3 : Hand Hz hd dz mz tz r) (h4 : tz <= ta + 5 * (j : Int)) (h5 : Hz pr = some (.dK rk)) (h6 : Hz pw = some (.dT wz)) (h7 : wz.length <= 12 * i + j) (h8 : WantsOk [hd, pw, po, pr] Hz (tr.map (·.1)) wz (fun a b => (a ∈ rs /\ b ∈ dsi) ∨ (a ∈ qs.take j /\ b = di))) (h9 : Hz po = some (.dK ok)) : AInv H9 hd tp lp pn pd px pw po pr r ta rk ok rs qs tr dsi di ex sx i j σ Hz
inductive BInv (H10 : Hp) (hd tp lp pn pd px pw po pr ps : Addr) (r tA : Int) (tr : Tr) (di : Str) (j : Nat) (σ : St) (Hz : Hp) : Prop
 | mk (nz ez : Option V) (dz mz tz : Int) (ss : List Str) (h1 : σ = [some (.ref hd), some (.ref tp), some (.ref lp), some (.ref pn), some (.ref pd), some (.ref px), some (.ref pw), some (.ref po), some (.ref pr), nz, ez, some (.str di), some (.ref ps)]) (h2 : FrS [hd] H10 Hz) (h3 : Hand Hz hd dz mz tz r) (h4 : tz <= tA + (j : Int)) (h5 : Hz ps = some (.lst (ss.map V.str))) (h6 : ss.length <= j) (h7 : ∀ x ∈ ss, x ∈ tr.map (·.1)) : BInv H10 hd tp lp pn pd px pw po pr ps r tA tr di j σ Hz
abbrev zn9 : Stmt := top 22
theorem wRet : zc5 zn9 = xr5 (zc5 zn9) (yt6 (zc5 zn9)) := rfl
def wFs : List (Str × VF) := [("tree", .var "_law_tree_here"), ("late", .var "_law_late"), ("deeds", .var "_law_deeds"), ("wants", .var "_law_wants"), ("owners", .var "_law_owners"), ("vars", .cut "_law_words_here" none (some 4)), ("params", .cut "_law_words_here" (some 4) (some 8)), ("fields", .cut "_law_words_here" (some 6) none), ("told", .dict0), ("held", .dict0), ("roots", .var "_law_roots")]
theorem wForm : ys6 (yt6 (zc5 zn9)) = some wFs := by decide +kernel
inductive xd5 (vs : List V) (H : Hp) (Q : VK) : Prop
 | mk (hd : Addr) (d m t r : Int) (h1 : vs = [.ref hd]) (h2 : Hand H hd d m t r) (h3 : t + 1000 < 1000000) (h4 : ∀ (wd : Addr) (A : WA) (D : WD) (H' : Hp) (t' : Int), Sit0 H' hd wd A D t' r -> FrS [hd] H H' -> H A.told = none -> H A.held = none -> t' <= t + 900 -> Q (.ref wd) H') : xd5  vs H Q
def yp5 : Sp := fun vs H Q _ => xd5  vs H Q
theorem nxI {N : St -> Hp -> Prop} {r : VK} {b c : St -> Hp -> Prop} {σ : St} {H : Hp} (h : N σ H) : ({ nx := N, rt := r, bk := b, ct := c } : Ends).nx σ H := h
theorem gN {i : Nat} {v : V} {σ : St} {H : Hp} {Q : St -> Hp -> Prop} (h : Q (σ.set i (some v)) H) : zf8 i v σ H Q := h
theorem seqN {t u : TS} {D : Ends} {σ : St} {H : Hp} (h : ∀ N : St -> Hp -> Prop, u D = N -> t { D with nx := N } σ H) : tSeq t u D σ H := h _ rfl
section
variable {P : Program} {w : World} {K : PySem.W.Frag} {mg : Str -> Option Value} {base : Heap} {f : Addr} {fd : FuncData}
abbrev nWorld : List Str := ["_law_hand_here", "_law_tree_here", "_law_late", "_law_names", "_law_deeds", "_law_words_here", "_law_wants", "_law_owners", "_law_roots", "_law_name", "_law_elder", "_law_deed_here", "_law_some"]
theorem zh2 : zd3 nWorld ["_law_hand_here"] (zb7 zn9) := ⟨rfl, rfl, rfl, by decide +kernel, rfl, by decide +kernel, by decide +kernel⟩
set_option maxHeartbeats 8000000 in
theorem xm3 {k : Nat} (F : Fun K "_law_world" "_law_world" zn9 f fd) (T : Cal P w K mg base k "_law_take" ["_law_hand_here", "_law_many"] zh5) (O : Cal P w K mg base k "_law_of" ["_law_hand_here", "_law_some"] (spOf K))
  (W : Cal P w K mg base k "_law_words" ["_law_hand_here", "_law_many"] yd8) (TR : Cal P w K mg base k "_law_tree" ["_law_hand_here"] xd3) (mdi : mg "dict" = none) (mr : mg "range" = none) (mi : mg "int" = none) : FnOk P w K mg base CX0 (k + 1) f fd ["_law_hand_here"] yp5 := by
 obtain ⟨g, gd, GT, bT, kT, mT⟩ := T.ex
 obtain ⟨g2, gd2, GO, bO, kO, mO⟩ := O.ex
 obtain ⟨g3, gd3, GW, bW, kW, mW⟩ := W.ex
 obtain ⟨g4, gd4, GR, bR, kR, mR⟩ := TR.ex
 refine F.ok zh2 (fun vs H Q E h => ?_) (fun cdv A outer s H vs Q E hr h => ?_)
 ·obtain ⟨hd, d, m, t, r, rfl, _⟩ := h
  rfl
 obtain ⟨hd, d, m, t, r, rfl, hh, ht, q⟩ := h
 have hu := zm7 hr
 have nd2 : (["_law_name", "_law_elder"] : List Str).Nodup := by decide +kernel
 have nd1 : (["_law_root"] : List Str).Nodup := by decide +kernel
 have nd3 : (["_law_k", "_law_hand_here", "_law_names"] : List Str).Nodup := by decide +kernel
 have hO := wForm
 rw [wRet]
 generalize yt6 (zc5 zn9) = L at hO
 refine ⟨_, zb3 (zt0 (zb8 GR hr rfl mR kR bR .nil zc6 (zb0 (pv 0) zb2)) (zh4 (n := 2) rfl (zc1 (zc0 (i := 1) zh2.nd rfl (Or.inl rfl)) (zc1 (zc0 (i := 2) zh2.nd rfl (Or.inl rfl)) zg4))))
  (zb3 (zc3 (i := 3) zh2.nd rfl (Or.inr rfl) (zh8 (N' := ["_law_name", "_law_elder"]) (src := [none, none]) rfl ⟨rfl, by decide +kernel, by decide +kernel, rfl, rfl, rfl⟩
   (zh0 (pv 1)) (g := gTup K 2 (zk1 (zf8 0) (zk1 (zf8 1) gNil))) (fun _ _ _ _ => zh4 (n := 2) rfl (zc1 (zc0 (i := 0) nd2 rfl (Or.inl rfl) (Or.inr rfl)) (zc1 (zc0 (i := 1) nd2 rfl (Or.inl rfl) (Or.inr rfl)) zg4)))
   (fun _ _ _ _ => zh3) (fun _ _ _ _ => pv 0)))
  (zb3 (zc3 (i := 4) zh2.nd rfl (Or.inl rfl) (zb8 GW hr rfl mW kW bW .nil zc6 (zb0 (pv 0) (zb0 (zb8 GO hr rfl mO kO bO .nil zc6 (zb0 (pv 0) (zb0 (zd7 (zf3 (zf3 (zf3 (zf3 (zf3 (zf3 (zf3 (zf3 zb2))))))))) zb2))) zb2))))
  (zb3 (zc3 (i := 5) zh2.nd rfl (Or.inl rfl) (zb8 GW hr rfl mW kW bW .nil zc6 (zb0 (pv 0) (zb0 zb6 zb2))))
  (zb3 (zc3 (i := 6) zh2.nd rfl (Or.inl rfl) xk8)
  (zb3 (zc3 (i := 7) zh2.nd rfl (Or.inl rfl) zq9)
  (zb3 (zc3 (i := 8) zh2.nd rfl (Or.inl rfl) zq9)
  (zb3 (zg6 PassesOwn.never rfl (zh0 (pv 1)) (zh4 (n := 2) rfl (zc1 (zc0 (i := 9) zh2.nd rfl (Or.inl rfl)) (zc1 (zc0 (i := 10) zh2.nd rfl (Or.inl rfl)) zg4)))
   (zb9 (zm9 hu (pv 8) (pv 9) (xn2 hu (pv 8) (pv 10) (pv 9) ⟨rfl, rfl, rfl, rfl⟩) rfl)))
  (zb3 (zg6 PassesOwn.never rfl (zh0 (pv 4)) (zc0 (i := 11) zh2.nd rfl (Or.inl rfl))
   (zb3 (zg6 PassesOwn.never rfl (yc9 (zd1 (zj3 rfl) rfl mdi (by decide +kernel) (zb0 (xc9 (zh8 (N' := ["_law_root"]) (src := [none]) rfl ⟨rfl, by decide +kernel, by decide +kernel, rfl, rfl, rfl⟩
     (xw9 (pv 8)) (g := zf8 0) (fun _ _ _ _ => zc0 (i := 0) nd1 rfl (Or.inl rfl) (Or.inr rfl)) (fun _ _ _ _ => zh3) (fun _ _ _ _ => zf6 (zb0 (pv 0) (zb0 xv6 zb2))))) zb2))) (zc0 (i := 9) zh2.nd rfl (Or.inl rfl))
    (zb9 (zm9 hu (pv 6) (zf6 (zb0 (pv 9) (zb0 (pv 11) zb2))) (zh8 (N' := ["_law_k", "_law_hand_here", "_law_names"]) (src := [none, some 0, some 3]) rfl ⟨rfl, by decide +kernel, by decide +kernel, rfl, rfl, rfl⟩
     (zk5 rfl mr (zb0 (zb8 GO hr rfl mO kO bO .nil zc6 (zb0 (pv 0) (zb0 (zd7 (zf3 (zf3 (zf3 (zf3 (zf3 zb2)))))) zb2))) zb2)) (g := zf8 0) (fun _ _ _ _ => zc0 (i := 0) nd3 rfl (Or.inl rfl) (Or.inr rfl)) (fun _ _ _ _ => zh3)
     (fun _ _ _ _ => zb8 GO hr rfl mO kO bO .nil zc6 (zb0 (pv 1) (zb0 (pv 2) zb2)))) rfl)))
   (zb3 (zc3 (i := 12) zh2.nd rfl (Or.inl rfl) (zd7 zb2))
   (zb3 (zg6 PassesOwn.never rfl (zh0 (pv 1)) (zh4 (n := 2) rfl (zc1 (zc0 (i := 9) zh2.nd rfl (Or.inl rfl)) (zc1 (zc0 (i := 10) zh2.nd rfl (Or.inl rfl)) zg4)))
    (zb9 (zh9 (zc7 zp1 (zb8 GT hr rfl mT kT bT .nil zc6 (zb0 (pv 0) (zb0 (eI (zd7 (zf3 (zf3 zb2))) (zd1 zr1 rfl mi (by decide +kernel) (zb0 (pe_cmp (ys4 (pv 10))) zb2))) zb2))) zb6 (zd8 _))
     (zb9 (zg2 (zk6 PySem.F.plainAttrs_list PySem.F.slot_list_append PySem.F.type_list_append zf0 (pv 12) (zb0 (pv 9) zb2)))) zd9)))
   (zb9 (zm9 hu (pv 7) (pv 11) (zf7 yc3 (pv 12) (zf7 op_rep (zd7 (zb0 (eI (pv 3) zb6) zb2)) (zd1 zr1 rfl mi (by decide +kernel) (zb0 (zn2 (ys2 (Nat.lt_of_succ_lt hu)) (pv 12) (zd7 zb2) (zd8 _)) zb2)))) rfl))))))
  (zb9 (zd4 (yp6 hO (.cons (.var (i := 1) ⟨rfl, Or.inl rfl, by decide, by decide⟩) (.cons (.var (i := 2) ⟨rfl, Or.inl rfl, by decide, by decide⟩) (.cons (.var (i := 4) ⟨rfl, Or.inl rfl, by decide, by decide⟩) (.cons (.var (i := 6) ⟨rfl, Or.inl rfl, by decide, by decide⟩) (.cons (.var (i := 7) ⟨rfl, Or.inl rfl, by decide, by decide⟩)
   (.cons (.cut (i := 5) ⟨rfl, Or.inl rfl, by decide, by decide⟩) (.cons (.cut (i := 5) ⟨rfl, Or.inl rfl, by decide, by decide⟩) (.cons (.cut (i := 5) ⟨rfl, Or.inl rfl, by decide, by decide⟩) (.cons .dict0 (.cons .dict0 (.cons (.var (i := 8) ⟨rfl, Or.inl rfl, by decide, by decide⟩) .nil))))))))))) (by simp [wFs]) (by decide)))))))))))), ?_⟩
 first | dsimp only [cxOf, Cx.nox] | skip
 have s1 : ∀ {n : Nat}, n <= 1000 -> n < sizeLine := fun h => zc2 h
 refine seqN fun N hN => ?_
 refine ⟨_, rfl, hd, d, m, t, r, rfl, hh, by omega, fun a tp lp ts tr late d1 m1 t1 H1 f1 hh1 ht1 ha htpH hlpH htp1 htl htt hok hne h12 hlp1 hlm hll hso => ?_⟩
 refine ⟨a, _, rfl, SqT.of ha, rfl, _, _, rfl, _, _, rfl, rfl, ?_⟩
 subst hN
 first | refine nxI ?_ | skip
 refine seqN fun N hN => ?_
 refine ⟨_, rfl, tp, rfl, ⟨_, SqL.of htp1⟩, fun pn hpn => ?_⟩
 refine zs1 (tr := tr) htp1 htl htt hpn (by omega) fun H2 f2 hpn2 => ?_
 subst hN
 first | refine nxI ?_ | skip
 refine seqN fun N hN => ?_
 have hh2 : Hand H2 hd d1 m1 t1 r := ⟨f2 _ _ (by trivial) hh1.1, hh1.2⟩
 have f02 : FrS [hd] H H2 := f1.trans (f2.mono (by trivial))
 have htp2 := f2 _ _ (by trivial) htp1
 have hlp2 := f2 _ _ (by trivial) hlp1
 have htt2 : ∀ (j : Nat) t x, ts[j]? = some t -> tr[j]? = some x -> H2 t = some (.tup [.str x.1, eldV x.2]) := fun j t x a b => f2 _ _ (by trivial) (htt j t x a b)
 have htpd : tp ≠ hd := fun z => by rw [z, hh.1] at htpH; cases htpH
 have hlpd : lp ≠ hd := fun z => by rw [z, hh.1] at hlpH; cases hlpH
 refine ⟨_, rfl, _, rfl, by show 8 <= sizeLine; exact Nat.le_of_lt (s1 (by decide)), fun p0 hp0 => ?_⟩
 have h0d : p0 ≠ hd := fun z => by rw [z, hh2.1] at hp0; cases hp0
 have hh3 := hh2.new (o := .lst [V.int 1, V.int 2, V.int 2, V.int 3, V.int 3, V.int 4, V.int 4, V.int 6]) hp0
 have f3 : FrS [] H2 (upd H2 p0 (.lst [V.int 1, V.int 2, V.int 2, V.int 3, V.int 3, V.int 4, V.int 4, V.int 6])) := FrS.new hp0
 have hq0 : upd H2 p0 (.lst [V.int 1, V.int 2, V.int 2, V.int 3, V.int 3, V.int 4, V.int 4, V.int 6]) p0 = some (.lst [V.int 1, V.int 2, V.int 2, V.int 3, V.int 3, V.int 4, V.int 4, V.int 6]) := zb1
 generalize upd H2 p0 (.lst [V.int 1, V.int 2, V.int 2, V.int 3, V.int 3, V.int 4, V.int 4, V.int 6]) = H3 at hh3 f3 hq0
 refine ⟨hd, p0, d1, m1, t1, r, _, rfl, hh3, by omega, h0d, SqL.of hq0, by simp, by show 8 < 1000; decide, fun x d4 m4 t4 hx c4 e4 => ?_⟩
 obtain ⟨n, rfl, n1, n6⟩ : ∃ n : Nat, x = .int (n : Int) /\ 1 <= n /\ n <= 6 := by
  simp only [List.mem_cons, List.not_mem_nil, or_false] at hx
  rcases hx with rfl | rfl | rfl | rfl | rfl | rfl | rfl | rfl
  ·exact ⟨1, rfl, by decide, by decide⟩
  ·exact ⟨2, rfl, by decide, by decide⟩
  ·exact ⟨2, rfl, by decide, by decide⟩
  ·exact ⟨3, rfl, by decide, by decide⟩
  ·exact ⟨3, rfl, by decide, by decide⟩
  ·exact ⟨4, rfl, by decide, by decide⟩
  ·exact ⟨4, rfl, by decide, by decide⟩
  ·exact ⟨6, rfl, by decide, by decide⟩
 have f4 : FrS [hd] H2 (upd H3 hd (hl d4 m4 t4 r)) := (f3.mono (by trivial)).put' (by trivial)
 have hh4 : Hand (upd H3 hd (hl d4 m4 t4 r)) hd d4 m4 t4 r := Hand.at c4
 generalize upd H3 hd (hl d4 m4 t4 r) = H4 at f4 hh4
 refine ⟨hd, d4, m4, t4, r, n, rfl, hh4, by omega, by omega, fun pd ds d5 m5 t5 H5 f5 hh5 ht5 hpd hpd5 hdl hdn => ?_⟩
 subst hN
 first | refine nxI ?_ | skip
 refine seqN fun N hN => ?_
 refine ⟨_, rfl, hd, d5, m5, t5, r, 9, rfl, hh5, by omega, by decide, fun px xs d6 m6 t6 H6 f6 hh6 ht6 hpx hpx6 hxl hxn => ?_⟩
 subst hN
 first | refine nxI ?_ | skip
 refine seqN fun N hN => ?_
 have f26 : FrS [hd] H2 H6 := (f4.trans f5).trans f6
 have f06 : FrS [hd] H H6 := f02.trans f26
 have hpdd : pd ≠ hd := zj0 hpd5 hh5
 have hpxd : px ≠ hd := zj0 hpx6 hh6
 have hpnd : pn ≠ hd := zj0 hpn2 hh2
 have ttd : ∀ (j : Nat) t x, ts[j]? = some t -> tr[j]? = some x -> t ≠ hd := fun j t x a b z => by have h3 := htt2 j t x a b; rw [z, hh2.1] at h3; cases h3
 have htp6 := f26 _ _ (by simpa using htpd) htp2
 have hlp6 := f26 _ _ (by simpa using hlpd) hlp2
 have hpn6 := f26 _ _ (by simpa using hpnd) hpn2
 have hpd6 := f6 _ _ (by simpa using hpdd) hpd5
 have htt6 : ∀ (j : Nat) t x, ts[j]? = some t -> tr[j]? = some x -> H6 t = some (.tup [.str x.1, eldV x.2]) := fun j t x a b => f26 _ _ (by simpa using ttd j t x a b) (htt2 j t x a b)
 intro pw hpw
 subst hN
 first | refine nxI ?_ | skip
 refine seqN fun N hN => ?_
 intro po hpo
 subst hN
 first | refine nxI ?_ | skip
 refine seqN fun N hN => ?_
 intro pr hpr
 subst hN
 first | refine nxI ?_ | skip
 refine seqN fun N hN => ?_
 have hpo6 : H6 po = none := by rw [← zb5 (H := H6) (a := pw) (b := po) (o := .dT []) (fun z => by rw [z, zb1] at hpo; cases hpo)]; exact hpo
 have hpow : po ≠ pw := fun z => by rw [z, zb1] at hpo; cases hpo
 have hprw : pr ≠ pw := fun z => by rw [z, zb5 hpow.symm, zb1] at hpr; cases hpr
 have hpro : pr ≠ po := fun z => by rw [z, zb1] at hpr; cases hpr
 have hpr6 : H6 pr = none := by rw [zb5 hpro, zb5 hprw] at hpr; exact hpr
 have hbw : upd (upd (upd H6 pw (.dT [])) po (.dK [])) pr (.dK []) pw = some (.dT []) := by rw [zb5 hprw.symm, zb5 hpow.symm]; exact zb1
 have hbo : upd (upd (upd H6 pw (.dT [])) po (.dK [])) pr (.dK []) po = some (.dK []) := by rw [zb5 hpro.symm]; exact zb1
 have hbr : upd (upd (upd H6 pw (.dT [])) po (.dK [])) pr (.dK []) pr = some (.dK []) := zb1
 have fb : FrS [] H6 (upd (upd (upd H6 pw (.dT [])) po (.dK [])) pr (.dK [])) := ((FrS.new hpw).trans (FrS.new hpo)).trans (FrS.new hpr)
 generalize upd (upd (upd H6 pw (.dT [])) po (.dK [])) pr (.dK []) = Hb at hbw hbo hbr fb
 have hhb : Hand Hb hd d6 m6 t6 r := ⟨fb _ _ (by trivial) hh6.1, hh6.2⟩
 have hdw : hd ≠ pw := zb4 hh6.1 hpw
 have hdo : hd ≠ po := zb4 hh6.1 hpo6
 have hdr : hd ≠ pr := zb4 hh6.1 hpr6
 have stat : ∀ b o, b ≠ hd -> H6 b = some o -> Stt [hd, pw, po, pr] Hb b o := fun b o n e => ⟨by simp only [List.mem_cons, List.not_mem_nil, or_false, not_or]; exact ⟨n, zb4 e hpw, zb4 e hpo6, zb4 e hpr6⟩, fb _ _ (by trivial) e⟩
 have Stp := stat _ _ htpd htp6
 have Slp := stat _ _ hlpd hlp6
 have Spn := stat _ _ hpnd hpn6
 have Spd := stat _ _ hpdd hpd6
 have Spx := stat _ _ hpxd hpx6
 have Stt' : ∀ (j : Nat) t x, ts[j]? = some t -> tr[j]? = some x -> Stt [hd, pw, po, pr] Hb t (.tup [.str x.1, eldV x.2]) := fun j t x a b => stat _ _ (ttd j t x a b) (htt6 j t x a b)
 have f0b : FrS [hd] H Hb := f06.trans (fb.mono (by trivial))
 have hpwH : H pw = none := zs8 f06 hh6 hpw
 have hpoH : H po = none := zs8 f06 hh6 hpo6
 have hprH : H pr = none := zs8 f06 hh6 hpr6
 have toH : ∀ Hx : Hp, FrS [hd, pw, po, pr] Hb Hx -> FrS [hd] H Hx := fun Hx fx b o n e => fx b o (by
  simp only [List.mem_cons, List.not_mem_nil, or_false, not_or] at n ⊢
  exact ⟨n, zb4 e hpwH, zb4 e hpoH, zb4 e hprH⟩) (f0b b o n e)
 have hin : ∀ Hx : Hp, (∃ o, Hx hd = some o) -> (∃ o, Hx pw = some o) -> (∃ o, Hx po = some o) -> (∃ o, Hx pr = some o) -> ∀ p, Hx p = none -> p ∉ [hd, pw, po, pr] := fun Hx a b c e p hp z => by
  simp only [List.mem_cons, List.not_mem_nil, or_false] at z
  rcases z with z | z | z | z
  ·obtain ⟨o, ho⟩ := a; rw [← z, hp] at ho; cases ho
  ·obtain ⟨o, ho⟩ := b; rw [← z, hp] at ho; cases ho
  ·obtain ⟨o, ho⟩ := c; rw [← z, hp] at ho; cases ho
  ·obtain ⟨o, ho⟩ := e; rw [← z, hp] at ho; cases ho
 refine ⟨_, rfl, tp, rfl, ⟨_, SqL.of Stp.2⟩, ?_⟩
 refine zn1 (xs := ts.map V.ref) (fun i σ Hx => ∃ (nx ex : Option V) (rk : List (Key × V)), σ = [some (.ref hd), some (.ref tp), some (.ref lp), some (.ref pn), some (.ref pd), some (.ref px), some (.ref pw), some (.ref po), some (.ref pr), nx, ex, none, none] /\ FrS [pr] Hb Hx /\ Hx pr = some (.dK rk) /\ RootsOk tr i rk) ⟨_, _, [], rfl, FrS.refl, hbr, rfl, [], rfl⟩ ?_ ?_ ?_
 ·rintro i σ Hx hi ⟨_, _, _, _, fx, _⟩
  exact SqL.of (Stp.keep (fx.mono (by trivial))).2
 ·rintro i x σ Hx hx ⟨nx, ex, rk, rfl, fx, hrx, hrk⟩
  rw [List.getElem?_map] at hx
  obtain ⟨tt, htt', rfl⟩ := Option.map_eq_some_iff.mp hx
  obtain ⟨hi, _⟩ := List.getElem?_eq_some_iff.mp htt'
  have htr : tr[i]? = some tr[i] := List.getElem?_eq_getElem (by omega)
  have e3 := (Stt' i tt _ htt' htr).keep (fx.mono (by trivial))
  refine ⟨tt, _, rfl, SqT.of e3.2, rfl, _, _, rfl, _, _, rfl, rfl, ?_⟩
  have hrl : rk.length <= 12 := by
   have := congrArg List.length hrk.1
   rw [lqm, lqm, List.length_take] at this
   omega
  obtain ⟨ov, hask, r', hr'⟩ : ∃ ov : Option V, DAsk Hx pr (eldV tr[i].2) ov /\ ∃ r', ov.getD (.str tr[i].1) = .str r' := by
   cases he : tr[i].2 with
   | none => exact ⟨none, ⟨rk, .inl hrx, .inl ⟨rfl, rfl⟩⟩, _, rfl⟩
   | some e =>
    refine ⟨_, ⟨rk, .inl hrx, .inr ⟨Sum.inr e, rfl, rfl⟩⟩, ?_⟩
    cases hv : valV rk (Sum.inr e) with
    | none => exact ⟨_, rfl⟩
    | some v =>
     obtain ⟨r', rfl, _⟩ := hrk.val hv
     exact ⟨r', rfl⟩
  refine ⟨_, rfl, pr, rfl, .inl ⟨_, .inl hrx⟩, _, rfl, _, rfl, ov, hask, _, rfl, _, rfl, pr, _, rfl, DPut.k (k := (Sum.inr tr[i].1 : Key)) hrx (s1 (by omega)), _, _, _, rfl, fx.put' (by trivial), zb1, ?_⟩
  rw [hr']
  rcases RootsOk.step (r := r') (n := tr[i].1) (e := tr[i].2) hok hrk htr with h | h
  ·exact h.1
  ·omega
 rintro σ H7 ⟨nx7, ex7, rk, rfl, f7, hr7, hrk⟩
 subst hN
 first | refine nxI ?_ | skip
 refine seqN fun N hN => ?_
 rw [lqm] at hrk
 have hrk2 := hrk
 unfold RootsOk at hrk2
 rw [List.take_of_length_le (by omega)] at hrk2
 obtain ⟨rs, hrs⟩ := hrk2.2
 have hrsl : rs.length = tr.length := by
  have h1 := congrArg List.length hrk2.1
  have h2 := congrArg List.length hrs
  rw [lqm, lqm] at h1 h2
  omega
 have f7' : FrS [hd, pw, po, pr] Hb H7 := f7.mono (by trivial)
 have hh7 : Hand H7 hd d6 m6 t6 r := ⟨f7 _ _ (by simpa using hdr) hhb.1, hhb.2⟩
 have hw7 := f7 _ _ (by simpa using hprw.symm) hbw
 have ho7 := f7 _ _ (by simpa using hpro.symm) hbo
 refine ⟨_, rfl, pd, rfl, ⟨_, SqL.of (Spd.keep f7').2⟩, ?_⟩
 refine zn1 (xs := ds.map V.str) (DInv Hb hd tp lp pn pd px pw po pr r t6 rk rs ds tr)
  ⟨_, _, _, _, d6, m6, t6, [], [], rfl, f7', hh7, by omega, hr7, hw7, by simp, (fun r d h => by simp at h), ho7, by simp, (fun d h => by simp at h)⟩ ?_ ?_ ?_
 ·rintro i σ Hx hi ⟨_, _, _, _, _, _, _, _, _, _, fx, _⟩
  exact SqL.of (Spd.keep fx).2
 ·rintro i x σ Hx hx ⟨nx, ex, dx, sx, da, ma, ta, wk, ok, rfl, fx, hhx, hta, hrx, hwx, hwl, hwk, hox, hol, hok'⟩
  obtain ⟨hi, _⟩ := List.getElem?_eq_some_iff.mp hx
  rw [lqm] at hi
  rw [List.getElem?_map, List.getElem?_eq_getElem hi] at hx
  cases hx
  have hnames : ∀ Hy : Hp, FrS [hd, pw, po, pr] Hb Hy -> Hy pn = some (.lst ((tr.map (·.1)).map V.str)) := fun Hy fy => (Spn.keep fy).2
  have htrn : (tr.map (·.1)) ≠ [] := by simpa using hne
  have htrl : (tr.map (·.1)).length <= 12 := by rw [lqm]; exact h12
  refine gN ?_
  refine seqN fun N2 hN2 => ?_
  refine ⟨pr, rk, hrx, ?_⟩
  refine ⟨_, rfl, pr, rk, rfl, hrx, fun o Dl hDl => ?_⟩
  have hDr : Dl ≠ pr := fun z => by rw [z, zb1] at hDl; cases hDl
  have hDx : Hx Dl = none := by rw [zb5 hDr] at hDl; exact hDl
  refine yg6 (xs := rk.map fun kv => kv.2) (fun i' σ Hy => (∃ x, σ = [x]) /\ FrS [] (upd Hx pr (.frz o (.dK rk))) Hy /\ ∃ as : List Addr, as.length = i' /\ Hy Dl = some (.lst (as.map V.ref)) /\ ∀ (j : Nat) a, as[j]? = some a -> ∃ rt, rs[j]? = some rt /\ Hy a = some (.tup [.str rt, .bl true])) ⟨⟨_, rfl⟩, (FrS.refl).put hDl, [], rfl, zb1, (fun j a h => by simp at h)⟩ ?_ ?_ ?_
  ·rintro i' σ Hy hi ⟨_, fy, _⟩
   exact fy _ _ (by trivial) zb1
  ·rintro i' x σ Hy hx ⟨⟨x0, rfl⟩, fy, as, hal, hDy, has⟩
   rw [hrs] at hx
   obtain ⟨hi', _⟩ := List.getElem?_eq_some_iff.mp hx
   rw [lqm] at hi'
   rw [List.getElem?_map, List.getElem?_eq_getElem hi'] at hx
   cases hx
   refine ⟨_, rfl, by show 2 <= sizeLine; exact Nat.le_of_lt (s1 (by decide)), fun tq htq => ?_⟩
   have hDt : Dl ≠ tq := zb4 hDy htq
   have hD2 : upd Hy tq (.tup [V.str rs[i'], V.bl true]) Dl = some (.lst (as.map V.ref)) := by rw [zb5 hDt]; exact hDy
   refine ⟨_, hD2, by rw [lqm]; exact s1 (by omega), ⟨_, rfl⟩, (fy.trans (FrS.new htq)).put hDl, as ++ [tq], by rw [List.length_append, hal]; rfl, by rw [zb1, List.map_append]; rfl, fun j a' e => ?_⟩
   by_cases hj : j < as.length
   ·rw [List.getElem?_append_left hj] at e
    obtain ⟨rt, e1, e2⟩ := has j a' e
    have e3 : upd Hy tq (.tup [V.str rs[i'], V.bl true]) a' = some (.tup [.str rt, .bl true]) := by rw [zb5 (zb4 e2 htq)]; exact e2
    exact ⟨rt, e1, yd5 hD2 _ _ e3⟩
   ·rw [List.getElem?_append_right (by omega)] at e
    have h0 : j - as.length = 0 := by
     cases hz : j - as.length with
     | zero => rfl
     | succ k => rw [hz] at e; simp at e
    rw [h0] at e
    simp only [List.getElem?_cons_zero, Option.some.injEq] at e
    subst e
    have : j = i' := by omega
    subst this
    exact ⟨_, List.getElem?_eq_getElem hi', yd5 hD2 _ _ zb1⟩
  rintro σ Hy ⟨_, fy, as, hal, hDy, has⟩
  rw [lqm] at hal
  have hrkl : rk.length = rs.length := by
   have h2 := congrArg List.length hrs
   rw [lqm, lqm] at h2
   exact h2
  refine ⟨o, fy _ _ (by trivial) zb1, ?_⟩
  have f8 : FrS [] Hx (upd Hy pr (.dK rk)) := FrS.thaw hrx fy
  have hD8 : upd Hy pr (.dK rk) Dl = some (.lst (as.map V.ref)) := by rw [zb5 hDr]; exact hDy
  have has8 : ∀ (j : Nat) a, as[j]? = some a -> ∃ rt, rs[j]? = some rt /\ upd Hy pr (.dK rk) a = some (.tup [.str rt, .bl true]) := fun j a e => by
   obtain ⟨rt, e1, e2⟩ := has j a e
   exact ⟨rt, e1, by rw [zb5 (fun z => by rw [z, fy _ _ (by trivial) zb1] at e2; cases e2)]; exact e2⟩
  generalize upd Hy pr (.dK rk) = H8 at f8 hD8 has8
  refine ⟨Dl, as, rs.map (fun r => ((Sum.inr r : Key), V.bl true)), rfl, SqL.of hD8, by rw [lqm]; omega, by rw [lqm]; exact s1 (by omega), fun j t' kv ht' hkv => ?_, fun l hlN => ?_⟩
  ·obtain ⟨rt, e1, e2⟩ := has8 j t' ht'
   rw [List.getElem?_map, e1] at hkv
   cases hkv
   exact SqT.of e2
  refine ⟨l, _, rfl, zb1, fun o2 => ?_⟩
  obtain ⟨qs, eq, eql, eqm⟩ := xh0 rs (.bl true)
  generalize zg3 [] (rs.map (fun r => ((Sum.inr r : Key), V.bl true))) = kv2 at eq
  rw [zs3]
  have fx8 : FrS [] Hx (upd H8 l (.frz o2 (.dK kv2))) := f8.trans (FrS.new hlN)
  have hl9 : upd H8 l (.frz o2 (.dK kv2)) l = some (.frz o2 (.dK kv2)) := zb1
  generalize upd H8 l (.frz o2 (.dK kv2)) = H9 at fx8 hl9
  have hlx : Hx l = none := f8.old (by trivial) hlN
  have hlM : l ∉ [hd, pw, po, pr] := hin Hx ⟨_, hhx.1⟩ ⟨_, hwx⟩ ⟨_, hox⟩ ⟨_, hrx⟩ l hlx
  refine for_x (xs := kv2.map fun kv => kV kv.1) (AInv H9 hd tp lp pn pd px pw po pr r ta rk ok rs qs tr (ds.take i) ds[i] ex sx i)
   ⟨_, da, ma, ta, wk, rfl, FrS.refl, ⟨fx8 _ _ (by trivial) hhx.1, hhx.2⟩, by omega, fx8 _ _ (by trivial) hrx, fx8 _ _ (by trivial) hwx, by omega, (hwk.keep (fx8.mono (by trivial))).mono (fun a b h => by rcases h with h | h; exact h; simp at h), fx8 _ _ (by trivial) hox⟩ ?_ ?_ ?_
  ·rintro j σ Hz hj ⟨_, _, _, _, _, _, fz, _⟩
   exact fz _ _ hlM hl9
  ·rintro j x σ Hz hx ⟨nxz, dz, mz, tz, wz, rfl, fz, hhz, htz, hrz, hwz, hwzl, hwok, hoz⟩
   rw [eq] at hx
   obtain ⟨hj, _⟩ := List.getElem?_eq_some_iff.mp hx
   rw [lqm] at hj
   rw [List.getElem?_map, List.getElem?_eq_getElem hj] at hx
   cases hx
   have fbz : FrS [hd, pw, po, pr] Hb Hz := (fx.trans (fx8.mono (by trivial))).trans fz
   refine ⟨_, rfl, by show 5 <= sizeLine; exact Nat.le_of_lt (s1 (by decide)), fun p5 hp5 => ?_⟩
   have h5d : p5 ≠ hd := fun z => by rw [z, hhz.1] at hp5; cases hp5
   refine ⟨hd, p5, dz, mz, tz, r, _, rfl, hhz.new hp5, by omega, h5d, SqL.of zb1, by simp, by show 5 < 1000; decide, fun y dq mq tq hy cq eq' => ?_⟩
   obtain ⟨jn, rfl, jn4⟩ : ∃ jn : Nat, y = .int (jn : Int) /\ jn <= 4 := by
    simp only [List.mem_cons, List.not_mem_nil, or_false] at hy
    rcases hy with rfl | rfl | rfl | rfl | rfl
    ·exact ⟨0, rfl, by decide⟩
    ·exact ⟨1, rfl, by decide⟩
    ·exact ⟨1, rfl, by decide⟩
    ·exact ⟨2, rfl, by decide⟩
    ·exact ⟨4, rfl, by decide⟩
   have fq : FrS [hd] Hz (upd (upd Hz p5 (.lst [V.int 0, V.int 1, V.int 1, V.int 2, V.int 4])) hd (hl dq mq tq r)) := (FrS.new hp5).put' (by trivial)
   have hhq : Hand (upd (upd Hz p5 (.lst [V.int 0, V.int 1, V.int 1, V.int 2, V.int 4])) hd (hl dq mq tq r)) hd dq mq tq r := Hand.at cq
   generalize upd (upd Hz p5 (.lst [V.int 0, V.int 1, V.int 1, V.int 2, V.int 4])) hd (hl dq mq tq r) = Hq at fq hhq
   refine ⟨(jn : Int), rfl, by omega, by omega, fun Dw hDw => ?_⟩
   have hDwd : Dw ≠ hd := fun z => by rw [z, hhq.1] at hDw; cases hDw
   have hDwz : Hz Dw = none := zs8 fq hhq hDw
   have hDwM : Dw ∉ [hd, pw, po, pr] := hin Hz ⟨_, hhz.1⟩ ⟨_, hwz⟩ ⟨_, hoz⟩ ⟨_, hrz⟩ Dw hDwz
   refine zw9 (lo := 0) (n := (jn : Int).toNat) (fun i'' σ Hu => (∃ kx, σ = [kx, some (.ref hd), some (.ref pn)]) /\ FrS [hd] Hq Hu /\ ∃ (du mu tu : Int) (ws : List Str), Hand Hu hd du mu tu r /\ tu <= tq + i'' /\ Hu Dw = some (.lst (ws.map V.str)) /\ ws.length = i'' /\ ∀ x ∈ ws, x ∈ tr.map (·.1))
    ⟨⟨_, rfl⟩, FrS.new hDw, dq, mq, tq, [], hhq.new hDw, by omega, zb1, rfl, by simp⟩ ?_ ?_
   ·rintro i'' σ Hu hi'' ⟨⟨kx, rfl⟩, fu, du, mu, tu, ws, hhu, htu, hDu, hwsl, hwsm⟩
    have hpnu : Hu pn = some (.lst ((tr.map (·.1)).map V.str)) := fu _ _ (by simpa using hpnd) (fq _ _ (by simpa using hpnd) (hnames Hz fbz))
    refine ⟨_, rfl, _, rfl, hd, pn, du, mu, tu, r, _, rfl, hhu, by omega, hpnd, SqL.of hpnu, by simpa using htrn, by rw [lqm]; omega, fun v dv mv tv hv cv ev => ?_⟩
    obtain ⟨nm, hnm, rfl⟩ := List.mem_map.mp hv
    refine ⟨_, by rw [zb5 hDwd]; exact hDu, by rw [lqm]; exact s1 (by omega), ⟨_, rfl⟩, (fu.put' (by trivial)).put hDw, dv, mv, tv, ws ++ [nm], ⟨by rw [zb5 hDwd.symm]; exact zb1, cv⟩, by omega, by rw [zb1, List.map_append]; rfl, by rw [List.length_append, hwsl]; rfl, fun x hx => ?_⟩
    rcases List.mem_append.mp hx with h | h
    ·exact hwsm x h
    ·rw [List.mem_singleton.mp h]; exact hnm
   rintro σ Hu ⟨_, fu, du, mu, tu, ws, hhu, htu, hDu, hwsl, hwsm⟩
   have fzu : FrS [hd] Hz Hu := fq.trans fu
   refine ⟨_, rfl, _, rfl, _, rfl, by show 2 <= sizeLine; exact Nat.le_of_lt (s1 (by decide)), fun pk hpk => ?_⟩
   have fzk : FrS [hd] Hz (upd Hu pk (.tup [V.str qs[j], V.str ds[i]])) := fzu.trans (FrS.new hpk)
   have hDk : upd Hu pk (.tup [V.str qs[j], V.str ds[i]]) Dw = some (.lst (ws.map V.str)) := by rw [zb5 (zb4 hDu hpk)]; exact hDu
   have hhk := hhu.new (o := .tup [V.str qs[j], V.str ds[i]]) hpk
   have hkk : upd Hu pk (.tup [V.str qs[j], V.str ds[i]]) pk = some (.tup [V.str qs[j], V.str ds[i]]) := zb1
   generalize upd Hu pk (.tup [V.str qs[j], V.str ds[i]]) = Hk at fzk hDk hhk hkk
   have hwk' := fzk _ _ (by simpa using hdw.symm) hwz
   have hDw2 : Dw ≠ pw := fun z => hDwM (by rw [z]; simp)
   refine ⟨pw, _, rfl, DPut.t (k := [Sum.inr qs[j], Sum.inr ds[i]]) hwk' hkk (s1 (by omega)), _, du, mu, tu, _, rfl, fz.trans ((fzk.mono (by trivial)).put' (by trivial)), ⟨by rw [zb5 hdw]; exact hhk.1, hhk.2⟩, by omega, by rw [zb5 hprw]; exact fzk _ _ (by simpa using hdr.symm) hrz, zb1, ?_, ?_, by rw [zb5 hpow]; exact fzk _ _ (by simpa using hdo.symm) hoz⟩
   ·have := zg8 wz [Sum.inr qs[j], Sum.inr ds[i]] (V.ref Dw)
    omega
   ·have W1 := hwok.keep ((fzk.mono (T := [hd, pw, po, pr]) (by trivial)).put' (a := pw) (o := .dT (putK wz [Sum.inr qs[j], Sum.inr ds[i]] (.ref Dw))) (by trivial))
    refine (W1.put (r := qs[j]) (d := ds[i]) (p := Dw) (ws := ws) ⟨hDwM, by rw [zb5 hDw2]; exact hDk⟩ (by omega) hwsm).mono fun a b h => ?_
    rcases h with h | ⟨h1, h2⟩
    ·exact .inl (.inl h)
    ·rw [List.take_add_one, List.getElem?_eq_getElem hj] at h1
     rcases List.mem_append.mp h1 with h1 | h1
     ·exact .inl (.inr ⟨h1, h2⟩)
     ·have : a = qs[j] := by simpa using h1
      exact .inr ⟨this, h2⟩
  rintro σ H10 ⟨nxa, dA, mA, tA, wA, rfl, fA, hhA, htA, hrA, hwA, hwAl, hwAk, hoA⟩
  subst hN2
  first | refine nxI ?_ | skip
  refine seqN fun N2 hN2 => ?_
  have hql : (kv2.map fun kv => kV kv.1).length = qs.length := by rw [eq, lqm]
  rw [hql] at htA hwAl hwAk
  rw [List.take_of_length_le (Nat.le_refl _)] at hwAk
  have fbA : FrS [hd, pw, po, pr] Hb H10 := (fx.trans (fx8.mono (by trivial))).trans fA
  have hokA : OwnOk [hd, pw, po, pr] H10 (tr.map (·.1)) ok (fun b => b ∈ ds.take i) := hok'.keep ((fx8.mono (by trivial)).trans fA)
  refine ⟨Nat.zero_le _, fun ps hps => ?_⟩
  subst hN2
  first | refine nxI ?_ | skip
  refine seqN fun N2 hN2 => ?_
  have hpsM : ps ∉ [hd, pw, po, pr] := hin H10 ⟨_, hhA.1⟩ ⟨_, hwA⟩ ⟨_, hoA⟩ ⟨_, hrA⟩ ps hps
  have hpsd : ps ≠ hd := fun z => hpsM (by rw [z]; simp)
  have hpsn : ps ≠ pn := fun z => by rw [z, hnames H10 fbA] at hps; cases hps
  refine ⟨_, rfl, tp, rfl, ⟨_, SqL.of (by rw [zb5 (zb4 (Stp.keep fbA).2 hps)]; exact (Stp.keep fbA).2)⟩, ?_⟩
  refine zn1 (xs := ts.map V.ref) (BInv H10 hd tp lp pn pd px pw po pr ps r tA tr ds[i])
   ⟨_, _, dA, mA, tA, [], rfl, FrS.new hps, hhA.new hps, by omega, zb1, by simp, by simp⟩ ?_ ?_ ?_
  ·rintro j σ Hz hj ⟨_, _, _, _, _, _, _, fz, _⟩
   exact SqL.of ((Stp.keep fbA).keep (fz.mono (by trivial))).2
  ·rintro j x σ Hz hx ⟨nz, ez, dz, mz, tz, ss, rfl, fz, hhz, htz, hpz, hssl, hssm⟩
   rw [List.getElem?_map] at hx
   obtain ⟨tt, htt', rfl⟩ := Option.map_eq_some_iff.mp hx
   obtain ⟨hj, _⟩ := List.getElem?_eq_some_iff.mp htt'
   have htr : tr[j]? = some tr[j] := List.getElem?_eq_getElem (by omega)
   have e3 := ((Stt' j tt _ htt' htr).keep fbA).keep (fz.mono (by trivial))
   refine ⟨tt, _, rfl, SqT.of e3.2, rfl, _, _, rfl, _, _, rfl, rfl, ?_⟩
   refine ⟨_, rfl, by show 2 <= sizeLine; exact Nat.le_of_lt (s1 (by decide)), fun p2 hp2 => ?_⟩
   obtain ⟨kk, hkk, hk0, hk1⟩ : ∃ kk : Int, atI [V.int 3, V.int 2] (if decide (eldV tr[j].2 = V.non) = true then 1 else 0) = some (.int kk) /\ 0 < kk /\ kk < 10 := by
    cases tr[j].2 with
    | none => exact ⟨2, rfl, by decide, by decide⟩
    | some e => exact ⟨3, rfl, by decide, by decide⟩
   refine ⟨_, rfl, .inr ⟨_, rfl, p2, _, _, V.int kk, rfl, rfl, SqL.of zb1, hkk, hd, dz, mz, tz, r, kk, rfl, hhz.new hp2, by omega, hk0, by omega, fun y dv mv tv y0 y1 cv ev => ⟨rfl, _, rfl, ?_⟩⟩⟩
   have hpv : upd (upd Hz p2 (.lst [V.int 3, V.int 2])) hd (hl dv mv tv r) ps = some (.lst (ss.map V.str)) := by rw [zb5 hpsd, zb5 (zb4 hpz hp2)]; exact hpz
   have fv : FrS [hd] H10 (upd (upd Hz p2 (.lst [V.int 3, V.int 2])) hd (hl dv mv tv r)) := (fz.trans (FrS.new hp2)).put' (by trivial)
   have hhv : Hand (upd (upd Hz p2 (.lst [V.int 3, V.int 2])) hd (hl dv mv tv r)) hd dv mv tv r := Hand.at cv
   refine ite2 (fun c => ?_) (fun c => ?_)
   ·refine ⟨_, rfl, .inl ⟨rfl, _, SqL.of hpv⟩, _, rfl, ps, _, _, rfl, rfl, hpv, by rw [lqm]; exact s1 (by omega), _, _, dv, mv, tv, ss ++ [tr[j].1], rfl, fv.put hps, ⟨by rw [zb5 hpsd.symm]; exact hhv.1, hhv.2⟩, by omega, by rw [zb1, List.map_append]; rfl, by rw [List.length_append, List.length_singleton]; omega, fun x hx => ?_⟩
    rcases List.mem_append.mp hx with h | h
    ·exact hssm x h
    ·rw [List.mem_singleton.mp h]; exact List.mem_map.mpr ⟨_, List.mem_of_getElem? htr, rfl⟩
   ·exact ⟨_, _, dv, mv, tv, ss, rfl, fv, hhv, by omega, hpv, by omega, hssm⟩
  rintro σ H11 ⟨nz, ez, dz, mz, tz, ss, rfl, fz, hhz, htz, hpz, hssl, hssm⟩
  subst hN2
  first | refine nxI ?_ | skip
  rw [lqm] at htz hssl
  have fAz : FrS [hd, pw, po, pr] H10 H11 := fz.mono (by trivial)
  have hpn11 := hnames H11 (fbA.trans fAz)
  have h0 : 0 < (tr.map (·.1)).length := List.length_pos_iff.mpr htrn
  have hat0 : atI ((tr.map (·.1)).map V.str) 0 = some (.str (tr.map (·.1))[0]) := by
   have := zq2 (xs := (tr.map (·.1)).map V.str) (j := 0) (v := .str (tr.map (·.1))[0]) (by rw [List.getElem?_map, List.getElem?_eq_getElem h0]; rfl)
   exact this
  refine ⟨_, rfl, _, rfl, pn, _, _, _, rfl, rfl, SqL.of hpn11, hat0, by show 1 <= sizeLine; exact Nat.le_of_lt (s1 (by decide)), fun p1 hp1 => ?_⟩
  refine ⟨_, rfl, Nat.zero_le _, fun pe hpe => ?_⟩
  have hps1 : upd H11 p1 (.lst [V.str (tr.map (·.1))[0]]) ps = some (.lst (ss.map V.str)) := by rw [zb5 (zb4 hpz hp1)]; exact hpz
  have hpse : ps ≠ pe := zb4 hps1 hpe
  have hp1e : p1 ≠ pe := fun z => by rw [← z, zb1] at hpe; cases hpe
  refine ⟨ps, pe, _, rfl, rfl, hpse, SqL.of (by rw [zb5 hpse]; exact hps1), SqL.of zb1, .inr ⟨_, rfl, ?_⟩⟩
  obtain ⟨kk, hkk, zs, hzs, hzl, hzm⟩ : ∃ kk : Int, (if ((ss.map V.str).isEmpty != false) = true then (1 : Int) else 0) = kk /\ ∃ zs : List Str, (List.replicate kk.toNat [V.str (tr.map (·.1))[0]]).flatten = zs.map V.str /\ zs.length <= 1 /\ ∀ x ∈ zs, x ∈ tr.map (·.1) := by
   cases ss with
   | nil => exact ⟨1, rfl, [(tr.map (·.1))[0]], rfl, by simp, fun x hx => by rw [List.mem_singleton.mp hx]; exact List.getElem_mem h0⟩
   | cons y ys => exact ⟨0, rfl, [], rfl, by simp, by simp⟩
  have hkb : kk = 0 ∨ kk = 1 := by
   rw [← hkk]
   split
   ·exact .inr rfl
   ·exact .inl rfl
  rw [hkk]
  refine ⟨p1, kk, _, rfl, rfl, by rw [zb5 hp1e]; exact zb1, by omega, by omega, ?_, fun p2 hp2 => ?_⟩
  ·rcases hkb with rfl | rfl
   ·show 1 * 0 <= sizeLine; omega
   ·show 1 * 1 <= sizeLine; exact Nat.le_of_lt (s1 (by omega))
  rw [hzs]
  have hps2 : upd (upd H11 p1 (.lst [V.str (tr.map (·.1))[0]])) pe (.lst []) ps = some (.lst (ss.map V.str)) := by rw [zb5 hpse]; exact hps1
  refine ⟨ps, p2, _, _, rfl, rfl, by rw [zb5 (zb4 hps2 hp2)]; exact hps2, zb1, by rw [lqm, lqm]; exact Nat.le_of_lt (s1 (by omega)), fun p3 hp3 => ?_⟩
  rw [← List.map_append]
  have f12 : FrS [] H11 (upd (upd (upd (upd H11 p1 (.lst [V.str (tr.map (·.1))[0]])) pe (.lst [])) p2 (.lst (zs.map V.str))) p3 (.lst ((ss ++ zs).map V.str))) := by
   refine (((FrS.new hp1).trans (FrS.new hpe)).trans (FrS.new hp2)).trans (FrS.new ?_)
   exact hp3
  have hp3' : upd (upd (upd (upd H11 p1 (.lst [V.str (tr.map (·.1))[0]])) pe (.lst [])) p2 (.lst (zs.map V.str))) p3 (.lst ((ss ++ zs).map V.str)) p3 = some (.lst ((ss ++ zs).map V.str)) := zb1
  have hp3n : H11 p3 = none := FrS.old (S := []) (((FrS.new hp1).trans (FrS.new hpe)).trans (FrS.new hp2)) (by trivial) hp3
  generalize upd (upd (upd (upd H11 p1 (.lst [V.str (tr.map (·.1))[0]])) pe (.lst [])) p2 (.lst (zs.map V.str))) p3 (.lst ((ss ++ zs).map V.str)) = H12 at f12 hp3'
  have ho11 := fz _ _ (by simpa using hdo.symm) hoA
  have hw11 := fz _ _ (by simpa using hdw.symm) hwA
  have hr11 := fz _ _ (by simpa using hdr.symm) hrA
  have hp3M : p3 ∉ [hd, pw, po, pr] := hin H11 ⟨_, hhz.1⟩ ⟨_, hw11⟩ ⟨_, ho11⟩ ⟨_, hr11⟩ p3 hp3n
  have hp3o : p3 ≠ po := fun z => hp3M (by rw [z]; simp)
  refine ⟨_, rfl, _, rfl, po, _, rfl, DPut.k (k := (Sum.inr ds[i] : Key)) (f12 _ _ (by trivial) ho11) (s1 (by omega)), ?_⟩
  have f13 : FrS [hd, pw, po, pr] H10 (upd H12 po (.dK (putK ok (Sum.inr ds[i]) (.ref p3)))) := (fAz.trans (f12.mono (by trivial))).put' (by trivial)
  refine ⟨_, _, _, _, dz, mz, tz, wA, putK ok (Sum.inr ds[i]) (.ref p3), rfl, fbA.trans f13, ⟨by rw [zb5 hdo]; exact f12 _ _ (by trivial) hhz.1, hhz.2⟩, by omega, by rw [zb5 hpro]; exact f12 _ _ (by trivial) hr11, by rw [zb5 hpow.symm]; exact f12 _ _ (by trivial) hw11, by omega, ?_, zb1, ?_, ?_⟩
  ·refine (hwAk.keep f13).mono fun a b h => ?_
   rw [List.take_add_one, List.getElem?_eq_getElem hi] at h
   rcases List.mem_append.mp h.2 with h2 | h2
   ·exact .inl ⟨h.1, h2⟩
   ·exact .inr ⟨eqm a h.1, by simpa using h2⟩
  ·have := zg8 ok (Sum.inr ds[i]) (V.ref p3)
   omega
  ·refine ((hokA.keep f13).put (d := ds[i]) (p := p3) (os := ss ++ zs) ⟨hp3M, by rw [zb5 hp3o]; exact hp3'⟩ (fun x hx => ?_) (by rw [List.length_append]; omega)).mono' fun a h => ?_
   ·rcases List.mem_append.mp hx with h | h
    ·exact hssm x h
    ·exact hzm x h
   ·rw [List.take_add_one, List.getElem?_eq_getElem hi] at h
    rcases List.mem_append.mp h with h2 | h2
    ·exact .inl h2
    ·exact .inr (by simpa using h2)
 rintro σ Hx ⟨nx, ex, dx, sx, da, ma, ta, wk, ok, rfl, fx, hhx, hta, hrx, hwx, hwl, hwk, hox, hol, hok'⟩
 subst hN
 first | refine nxI ?_ | skip
 rw [lqm] at hta hwk hok'
 rw [List.take_of_length_le (Nat.le_refl _)] at hwk hok'
 intro p hp
 have hpx' := (Spx.keep fx).2
 refine ⟨_, rfl, _, rfl, _, rfl, _, rfl, _, rfl, _, rfl, _, rfl, px, _, rfl, SqL.of (by rw [zb5 (zb4 hpx' hp)]; exact hpx'), fun q1 hq1 => ?_⟩
 have e1 : cutV (xs.map V.str) none (some 4) = (xs.take 4).map V.str := by rw [List.map_take]; exact xj1 (xs.map V.str) (n := 4) (by rw [lqm]; omega)
 rw [e1]
 have g1 : FrS [] Hx (upd (upd Hx p (.dK [])) q1 (.lst ((xs.take 4).map V.str))) := (FrS.new hp).trans (FrS.new hq1)
 have p1 : upd (upd Hx p (.dK [])) q1 (.lst ((xs.take 4).map V.str)) p = some (.dK []) := by rw [zb5 (zb4 (o := .dK []) zb1 hq1)]; exact zb1
 have v1 : upd (upd Hx p (.dK [])) q1 (.lst ((xs.take 4).map V.str)) q1 = some (.lst ((xs.take 4).map V.str)) := zb1
 have nq1 : Hx q1 = none := (FrS.new (S := []) (o := .dK []) hp).old (by trivial) hq1
 generalize upd (upd Hx p (.dK [])) q1 (.lst ((xs.take 4).map V.str)) = K1 at g1 p1 v1
 refine ⟨_, rfl, _, rfl, _, rfl, px, _, rfl, SqL.of (g1 _ _ (by trivial) hpx'), fun q2 hq2 => ?_⟩
 have e2 : cutV (xs.map V.str) (some 4) (some 8) = ((xs.drop 4).take 4).map V.str := by rw [List.map_take, List.map_drop]; exact xw5 (xs.map V.str) (a := 4) (b := 8) (by rw [lqm]; omega) (by omega)
 rw [e2]
 have g2 : FrS [] K1 (upd K1 q2 (.lst (((xs.drop 4).take 4).map V.str))) := FrS.new hq2
 have v2 : upd K1 q2 (.lst (((xs.drop 4).take 4).map V.str)) q2 = some (.lst (((xs.drop 4).take 4).map V.str)) := zb1
 have nq2 : Hx q2 = none := g1.old (by trivial) hq2
 have nq2' := hq2
 generalize upd K1 q2 (.lst (((xs.drop 4).take 4).map V.str)) = K2 at g2 v2
 refine ⟨_, rfl, _, rfl, px, _, rfl, SqL.of (g2 _ _ (by trivial) (g1 _ _ (by trivial) hpx')), fun q3 hq3 => ?_⟩
 have e3 : cutV (xs.map V.str) (some 6) none = (xs.drop 6).map V.str := by rw [List.map_drop]; exact yr9 (xs.map V.str) (n := 6) (by rw [lqm]; omega)
 rw [e3]
 have g3 : FrS [] K2 (upd K2 q3 (.lst ((xs.drop 6).map V.str))) := FrS.new hq3
 have v3 : upd K2 q3 (.lst ((xs.drop 6).map V.str)) q3 = some (.lst ((xs.drop 6).map V.str)) := zb1
 generalize upd K2 q3 (.lst ((xs.drop 6).map V.str)) = K3 at g3 v3
 intro pt hpt
 have g4 : FrS [] K3 (upd K3 pt (.dK [])) := FrS.new hpt
 have v4 : upd K3 pt (.dK []) pt = some (.dK []) := zb1
 generalize upd K3 pt (.dK []) = K4 at g4 v4
 intro ph hph
 have g5 : FrS [] K4 (upd K4 ph (.dK [])) := FrS.new hph
 have v5 : upd K4 ph (.dK []) ph = some (.dK []) := zb1
 generalize upd K4 ph (.dK []) = K5 at g5 v5
 have g15 : FrS [] K1 K5 := ((g2.trans g3).trans g4).trans g5
 have gx5 : FrS [] Hx K5 := g1.trans g15
 have gx3 : FrS [] Hx K3 := (g1.trans g2).trans g3
 have gx4 : FrS [] Hx K4 := gx3.trans g4
 have npt : Hx pt = none := gx3.old (by trivial) hpt
 have nph : Hx ph = none := gx4.old (by trivial) hph
 have hp5 := g15 _ _ (by trivial) p1
 have hthp : pt ≠ ph := zb4 v4 hph
 have hpp : p ≠ pt := fun z => by rw [← z, (g2.trans g3) _ _ (by trivial) p1] at hpt; cases hpt
 have hpph : p ≠ ph := fun z => by rw [← z, ((g2.trans g3).trans g4) _ _ (by trivial) p1] at hph; cases hph
 refine ⟨_, rfl, hp5, [(Sum.inr "tree", .ref tp), (Sum.inr "late", .ref lp), (Sum.inr "deeds", .ref pd), (Sum.inr "wants", .ref pw), (Sum.inr "owners", .ref po), (Sum.inr "vars", .ref q1), (Sum.inr "params", .ref q2), (Sum.inr "fields", .ref q3), (Sum.inr "told", .ref pt), (Sum.inr "held", .ref ph), (Sum.inr "roots", .ref pr)], rfl, by show 11 <= 15; decide, ?_⟩
 have hnd : (([(Sum.inr "tree", .ref tp), (Sum.inr "late", .ref lp), (Sum.inr "deeds", .ref pd), (Sum.inr "wants", .ref pw), (Sum.inr "owners", .ref po), (Sum.inr "vars", .ref q1), (Sum.inr "params", .ref q2), (Sum.inr "fields", .ref q3), (Sum.inr "told", .ref pt), (Sum.inr "held", .ref ph), (Sum.inr "roots", .ref pr)] : List (Key × V)).map (·.1)).Nodup := by
  show ([Sum.inr "tree", Sum.inr "late", Sum.inr "deeds", Sum.inr "wants", Sum.inr "owners", Sum.inr "vars", Sum.inr "params", Sum.inr "fields", Sum.inr "told", Sum.inr "held", Sum.inr "roots"] : List Key).Nodup
  decide +kernel
 rw [yq0 _ [] (by rw [List.nil_append]; exact hnd), List.nil_append]
 generalize hkvs : ([(Sum.inr "tree", .ref tp), (Sum.inr "late", .ref lp), (Sum.inr "deeds", .ref pd), (Sum.inr "wants", .ref pw), (Sum.inr "owners", .ref po), (Sum.inr "vars", .ref q1), (Sum.inr "params", .ref q2), (Sum.inr "fields", .ref q3), (Sum.inr "told", .ref pt), (Sum.inr "held", .ref ph), (Sum.inr "roots", .ref pr)] : List (Key × V)) = kvs at hnd
 have gt : ∀ (j : Nat) (k : Key) (v : V), kvs[j]? = some (k, v) -> valV kvs k = some v := fun j k v h => xg6 hnd h
 have kp : ∀ b o, K5 b = some o -> b ≠ p -> upd K5 p (.dK kvs) b = some o := fun b o e n => by rw [zb5 n]; exact e
 have kx : ∀ b o, Hx b = some o -> upd K5 p (.dK kvs) b = some o := fun b o e => kp b o (gx5 _ _ (by trivial) e) (zb4 e hp)
 have hdx := hhx.1
 have st : ∀ b o, b ≠ hd -> Hx b = some o -> Stt [hd, pt, ph] (upd K5 p (.dK kvs)) b o := fun b o n e => ⟨by simp only [List.mem_cons, List.not_mem_nil, or_false, not_or]; exact ⟨n, zb4 e npt, zb4 e nph⟩, kx b o e⟩
 have hq1p : q1 ≠ p := fun z => by rw [z, p1] at v1; cases v1
 have hq2p : q2 ≠ p := fun z => by rw [z] at nq2'; rw [p1] at nq2'; cases nq2'
 have hq3p : q3 ≠ p := fun z => by rw [z, g2 _ _ (by trivial) p1] at hq3; cases hq3
 have nq3 : Hx q3 = none := (g1.trans g2).old (by trivial) hq3
 have w1 := g15 _ _ (by trivial) v1
 have w2 := ((g3.trans g4).trans g5) _ _ (by trivial) v2
 have w3 := (g4.trans g5) _ _ (by trivial) v3
 have w4 := g5 _ _ (by trivial) v4
 have sl : ∀ (b : Addr) (zs : List Str), K5 b = some (.lst (zs.map V.str)) -> b ≠ p -> Hx b = none -> Stt [hd, pt, ph] (upd K5 p (.dK kvs)) b (.lst (zs.map V.str)) := fun b zs e n e0 => ⟨by
  simp only [List.mem_cons, List.not_mem_nil, or_false, not_or]
  exact ⟨(fun z => by rw [z, hdx] at e0; cases e0), (fun z => by rw [z, w4] at e; cases e), (fun z => by rw [z, v5] at e; cases e)⟩, kp b _ e n⟩
 have hprd := hdr.symm
 have hpwd := hdw.symm
 have hpod := hdo.symm
 refine q p ⟨tp, lp, pd, pw, po, q1, q2, q3, pt, ph, pr⟩ ⟨tr, late, ds, xs.take 4, (xs.drop 4).take 4, xs.drop 6, wk, ok, rk⟩ _ ta ⟨⟨da, ma, kx _ _ hhx.1, hhx.2⟩, ⟨[], kp _ _ w4 hpp.symm, DOk.nil⟩, ⟨[], kp _ _ v5 hpph.symm, DOk.nil⟩, ⟨⟨kvs, ⟨?_, zb1⟩, ?_⟩, ⟨ts, st _ _ htpd (Stp.keep fx).2, htl, fun j t' x a b => st _ _ (ttd j t' x a b) ((Stt' j t' x a b).keep fx).2⟩, st _ _ hlpd (Slp.keep fx).2, st _ _ hpdd (Spd.keep fx).2, sl _ _ w1 hq1p nq1, sl _ _ w2 hq2p nq2, sl _ _ w3 hq3p nq3, st _ _ hpwd hwx, st _ _ hpod hox, st _ _ hprd hrx, ?_, ?_⟩, ?_, ?_⟩ ?_ ?_ ?_ ?_
 ·simp only [List.mem_cons, List.not_mem_nil, or_false, not_or]
  exact ⟨(fun z => by rw [z, hdx] at hp; cases hp), hpp, hpph⟩
 ·rw [← hkvs] at gt ⊢
  exact ⟨gt 0 _ _ rfl, gt 1 _ _ rfl, gt 2 _ _ rfl, gt 3 _ _ rfl, gt 4 _ _ rfl, gt 5 _ _ rfl, gt 6 _ _ rfl, gt 7 _ _ rfl, gt 8 _ _ rfl, gt 9 _ _ rfl, gt 10 _ _ rfl⟩
 ·intro n' hn' d' hd'
  have hkn : (Sum.inr n' : Key) ∈ rk.map (·.1) := by
   rw [hrk2.1]
   obtain ⟨z, hz, ez⟩ := List.mem_map.mp hn'
   exact List.mem_map.mpr ⟨z, hz, by rw [← ez]⟩
  obtain ⟨v, hv⟩ : ∃ v, valV rk (Sum.inr n') = some v := by
   cases hv : valV rk (Sum.inr n') with
   | some v => exact ⟨v, rfl⟩
   | none => exact absurd hkn (zv5 hv)
  obtain ⟨rt, rfl, hrt⟩ := hrk.val hv
  have hrt' : rt ∈ rs := by
   rw [hrs] at hrt
   obtain ⟨y, hy, ey⟩ := List.mem_map.mp hrt
   cases ey
   exact hy
  obtain ⟨pp, ws, a1, a2, a3, a4⟩ := hwk rt d' ⟨hrt', hd'⟩
  exact ⟨rt, pp, ws, hv, a1, st _ _ (fun z => a2.1 (by rw [z]; simp)) a2.2, a3, a4⟩
 ·intro d' hd'
  obtain ⟨pp, os, a1, a2, a3, a4⟩ := hok' d' hd'
  exact ⟨pp, os, a1, st _ _ (fun z => a2.1 (by rw [z]; simp)) a2.2, a3, a4⟩
 ·show ([hd, pt, ph] : List Addr).Nodup
  simp only [List.nodup_cons, List.mem_cons, List.not_mem_nil, or_false, not_or]
  exact ⟨⟨zb4 hdx npt, zb4 hdx nph⟩, hthp, not_false, List.nodup_nil⟩
 ·exact ⟨hok, hne, h12, hlm, hll, hso, (by show ds ≠ []; intro z; rw [z] at hdl; simp at hdl; omega), by show ds.length <= 6; omega, by show (xs.take 4).length = 4; rw [List.length_take]; omega, by show ((xs.drop 4).take 4).length = 4; rw [List.length_take, List.length_drop]; omega, by show (xs.drop 6).length = 3; rw [List.length_drop]; omega⟩
 ·exact (toH Hx fx).trans fun b o n e => kx b o e
 ·show H pt = none
  exact (toH Hx fx).old (fun b hb => by rw [List.mem_singleton.mp hb]; exact ⟨_, hdx⟩) npt
 ·show H ph = none
  exact (toH Hx fx).old (fun b hb => by rw [List.mem_singleton.mp hb]; exact ⟨_, hdx⟩) nph
 ·omega
end
end Gn
end
section
namespace Gn
open PySem L2
abbrev yx3 : Stmt := top 34
abbrev Dz := Str × Addr × List Addr × List Addr
inductive RowsIs (H : Hp) (z : Dz) : Prop
 | mk (h2 : H z.2.1 = some (.tup (z.2.2.1.map V.ref))) (h3 : Fl H 4 z.2.2.1 z.2.2.2) (h4 : z.2.2.2.length <= 80) : RowsIs H z
theorem RowsIs.keep {H H' : Hp} {z : Dz} (h : RowsIs H z) (f : Tup H H') : RowsIs H' z := by
 obtain ⟨h2, h3, h4⟩ := h
 exact ⟨f _ _ h2, h3.keep f, h4⟩
inductive DeedIs (H : Hp) (f : Addr) (z : Dz) : Prop
 | mk (pv gv : V) (h1 : H f = some (.tup [.str z.1, pv, .ref z.2.1, gv])) (h2 : RowsIs H z) : DeedIs H f z
theorem DeedIs.keep {H H' : Hp} {a : Addr} {z : Dz} (h : DeedIs H a z) (f : Tup H H') : DeedIs H' a z := by
 obtain ⟨pv, gv, h1, h2⟩ := h
 exact ⟨pv, gv, f _ _ h1, h2.keep f⟩
inductive KindIs (H : Hp) (u : Addr) (y : Str × List Dz) : Prop
 | mk (e : V) (dt : Addr) (fs : List Addr) (h1 : H u = some (.tup [.str y.1, e, .ref dt])) (h2 : H dt = some (.tup (fs.map V.ref))) (h3 : fs.length = y.2.length) (h4 : ∀ (j : Nat) f z, fs[j]? = some f -> y.2[j]? = some z -> DeedIs H f z) (h5 : fs.length <= 80) : KindIs H u y
theorem KindIs.keep {H H' : Hp} {a : Addr} {z : Str × List Dz} (h : KindIs H a z) (f : Tup H H') : KindIs H' a z := by
 obtain ⟨e, dt, fs, h1, h2, h3, h4, h5⟩ := h
 exact ⟨e, dt, fs, f _ _ h1, f _ _ h2, h3, fun j g z a b => (h4 j g z a b).keep f, h5⟩
inductive ProgIs (H : Hp) (p : Addr) (ks : List (Str × List Dz)) (m0 : Dz) : Prop
 | mk (kt : Addr) (us : List Addr) (lt : V) (h1 : H p = some (.tup [.ref kt, lt, .ref m0.2.1])) (h2 : H kt = some (.tup (us.map V.ref))) (h3 : us.length = ks.length) (h4 : ∀ (j : Nat) u y, us[j]? = some u -> ks[j]? = some y -> KindIs H u y) (h5 : RowsIs H m0) (h6 : ks.length <= 12) : ProgIs H p ks m0
theorem ProgIs.keep {H H' : Hp} {p : Addr} {ks : List (Str × List Dz)} {m0 : Dz} (h : ProgIs H p ks m0) (f : Tup H H') : ProgIs H' p ks m0 := by
 obtain ⟨kt, us, lt, h1, h2, h3, h4, h5, h6⟩ := h
 exact ⟨kt, us, lt, f _ _ h1, f _ _ h2, h3, fun j g z a b => (h4 j g z a b).keep f, h5.keep f, h6⟩
theorem Tup.dk {H : Hp} {p : Addr} {o : HO} {kv : List (Key × V)} (hp : H p = some (.dK kv)) : Tup H (upd H p o) := fun b xs h => by
 rw [zb5 (fun z => by rw [z, hp] at h; cases h)]; exact h
inductive LateAt (H : Hp) (p : Addr) : Prop
 | mk (kt lt : Addr) (m : V) (late : List Str) (h1 : H p = some (.tup [.ref kt, .ref lt, m])) (h2 : H lt = some (.tup (late.map V.str))) (h3 : late.length <= 64) : LateAt H p
theorem LateAt.keep {H H' : Hp} {p : Addr} (h : LateAt H p) (f : Tup H H') : LateAt H' p := by
 obtain ⟨kt, lt, m, late, h1, h2, h3⟩ := h
 exact ⟨kt, lt, m, late, f _ _ h1, f _ _ h2, h3⟩
theorem KindsAt.keepT {H H' : Hp} {p : Addr} {tr : Tr} (h : KindsAt H p tr) (f : Tup H H') : KindsAt H' p tr := by
 obtain ⟨kt, ts, x, y, h1, h2, h3, h4⟩ := h
 refine ⟨kt, ts, x, y, f _ _ h1, f _ _ h2, h3, fun j t z a b => ?_⟩
 obtain ⟨v, hv⟩ := h4 j t z a b
 exact ⟨v, f _ _ hv⟩
inductive xs6 (vs : List V) (H : Hp) (Q : VK) : Prop
 | mk (hd : Addr) (mo d m t r : Int) (h1 : vs = [.ref hd, .int mo]) (h0 : 0 <= mo /\ mo <= 80) (h2 : Hand H hd d m t r) (h3 : t <= 1000)
  (h4 : ∀ (p : Addr) (ks : List (Str × List Dz)) (m0 : Dz) (tr : Tr) (H' : Hp) (d' m' t' r' : Int), FrS [hd] H H' -> ProgIs H' p ks m0 -> KindsAt H' p tr -> TrOk tr -> tr.length <= 12 -> LateAt H' p -> Hand H' hd d' m' t' r' -> t' <= 10000 -> Q (.ref p) H') : xs6 vs H Q
def xd4 : Sp := fun vs H Q _ => xs6  vs H Q
def Heads (H : Hp) (fs : List Addr) : Prop := ∀ f ∈ fs, ∃ z, DeedIs H f z
theorem Heads.keep {H H' : Hp} {fs : List Addr} (h : Heads H fs) (g : Tup H H') : Heads H' fs := fun f hf => by
 obtain ⟨z, a⟩ := h f hf
 exact ⟨z, a.keep g⟩
inductive BKv (Hb H : Hp) (c : Nat) (v : V) : Prop
 | mk (p : Addr) (fs : List Addr) (h1 : v = .ref p) (h2 : H p = some (.lst (fs.map V.ref))) (h3 : fs.length <= c) (h4 : Hb p = none) (h5 : Heads H fs) : BKv Hb H c v
def BK (Hb H : Hp) (kvs : List (Key × V)) (c : Nat) : Prop := kvs.length <= c /\ ∀ k v, valV kvs k = some v -> BKv Hb H c v
theorem BK.keep {Hb H H' : Hp} {kvs : List (Key × V)} {c : Nat} {M : List Addr} (h : BK Hb H kvs c) (f : FrS M H H') (hm : ∀ p, Hb p = none -> p ∉ M) (tp : Tup H H') : BK Hb H' kvs c := ⟨h.1, fun k v e => by
 obtain ⟨p, xs, a, b, c', d, g⟩ := h.2 k v e
 exact ⟨p, xs, a, f _ _ (hm p d) b, c', d, g.keep tp⟩⟩
theorem BK.put {Hb H : Hp} {kvs : List (Key × V)} {c : Nat} {k : Key} {p : Addr} {fs : List Addr} (h : BK Hb H kvs c) (hp : H p = some (.lst (fs.map V.ref))) (hl : fs.length <= c + 1) (hb : Hb p = none) (hg : Heads H fs) : BK Hb H (putK kvs k (.ref p)) (c + 1) := by
 refine ⟨by have := zg8 kvs k (V.ref p); have := h.1; omega, fun k' v e => ?_⟩
 rw [zp6] at e
 by_cases z : k' = k
 ·rw [if_pos z] at e; cases e; exact ⟨p, fs, rfl, hp, hl, hb, hg⟩
 ·rw [if_neg z] at e
  obtain ⟨p', xs', a, b, c', d, g⟩ := h.2 k' v e
  exact ⟨p', xs', a, b, by omega, d, g⟩
theorem BK.app {Hb H : Hp} {kvs : List (Key × V)} {c : Nat} {p : Addr} {xs : List V} {gs : List Addr} (h : BK Hb H kvs c) (hp : H p = some (.lst xs)) (hl : gs.length <= c) (hg : Heads H gs) : BK Hb (upd H p (.lst (gs.map V.ref))) kvs c := by
 have kp : Tup H (upd H p (.lst (gs.map V.ref))) := Tup.lst hp
 refine ⟨h.1, fun k v e => ?_⟩
 obtain ⟨p', xs', a, b, c', d, g⟩ := h.2 k v e
 by_cases z : p' = p
 ·subst z; exact ⟨p', gs, a, zb1, hl, d, hg.keep kp⟩
 ·exact ⟨p', xs', a, by rw [zb5 z]; exact b, c', d, g.keep kp⟩
theorem BK.more {Hb H : Hp} {kvs : List (Key × V)} {c c' : Nat} (h : BK Hb H kvs c) (hc : c <= c') : BK Hb H kvs c' := ⟨by have := h.1; omega, fun k v e => by
 obtain ⟨p', xs', a, b, c'', d, g⟩ := h.2 k v e
 exact ⟨p', xs', a, b, by omega, d, g⟩⟩
theorem mk_ds {H : Hp} : ∀ fs : List Addr, Heads H fs -> ∃ zs : List Dz, fs.length = zs.length /\ ∀ (i : Nat) f z, fs[i]? = some f -> zs[i]? = some z -> DeedIs H f z
 | [], _ => ⟨[], rfl, fun i f d h => by simp at h⟩
 | f :: fs, h => by
  obtain ⟨d, e⟩ := h f (.head _)
  obtain ⟨ds, h1, h2⟩ := mk_ds fs fun g hg => h g (.tail _ hg)
  refine ⟨d :: ds, congrArg (· + 1) h1, fun i g d' hg hd => ?_⟩
  cases i with
  | zero => cases hg; cases hd; exact e
  | succ i => exact h2 i g d' hg hd
inductive KAt (H : Hp) (u : Addr) (z : Str × Option Str) : Prop
 | mk (dt : Addr) (fs : List Addr) (h1 : H u = some (.tup [.str z.1, eldV z.2, .ref dt])) (h2 : H dt = some (.tup (fs.map V.ref))) (h3 : fs.length <= 80) (h4 : Heads H fs) : KAt H u z
theorem KAt.keep {H H' : Hp} {u : Addr} {z : Str × Option Str} (h : KAt H u z) (g : Tup H H') : KAt H' u z := by
 obtain ⟨dt, fs, h1, h2, h3, h4⟩ := h
 exact ⟨dt, fs, g _ _ h1, g _ _ h2, h3, h4.keep g⟩
theorem mk_ks {H : Hp} : ∀ (us : List Addr) (tr : Tr), A2 (KAt H) us tr -> ∃ ks : List (Str × List Dz), us.length = ks.length /\ ∀ (j : Nat) u y, us[j]? = some u -> ks[j]? = some y -> KindIs H u y
 | [], _, _ => ⟨[], rfl, fun i f d h => by simp at h⟩
 | u :: us, _, .cons (b := z) g gt => by
  obtain ⟨dt, fs, e1, e2, e3, e4⟩ := g
  obtain ⟨zs, z1, z2⟩ := mk_ds fs e4
  obtain ⟨ks, h1, h2⟩ := mk_ks us _ gt
  refine ⟨(z.1, zs) :: ks, congrArg (· + 1) h1, fun i g d' hg hd => ?_⟩
  cases i with
  | zero => cases hg; cases hd; exact ⟨_, dt, fs, e1, e2, z1, z2, e3⟩
  | succ i => exact h2 i g d' hg hd
inductive PInv (mo : Int) (H1 : Hp) (hd wd bk : Addr) (WA : WA) (D : WD) (t1 : Int) (i : Nat) (σ : St) (Hx : Hp) : Prop
 | mk (lx kx : Option V) (tx rx : Int) (kvs : List (Key × V)) (h1 : σ = [some (.ref hd), some (.int mo), some (.ref wd), some (.ref bk), lx, kx, none, none]) (h2 : Sit0 Hx hd wd WA D tx rx) (h3 : FrS (M0 hd WA) H1 Hx) (h4 : 0 <= rx) (h5 : rx <= 54) (h6 : tx + 25 * rx <= t1 + 1350 + 195 * (i : Int)) (h7 : Hx bk = some (.dK kvs)) (h8 : BK H1 Hx kvs (13 * i)) : PInv mo H1 hd wd bk WA D t1 i σ Hx
inductive QInv (mo : Int) (H1 : Hp) (hd wd bk : Addr) (WA : WA) (D : WD) (t1 lv : Int) (i j : Nat) (σ : St) (Hy : Hp) : Prop
 | mk (ky : Option V) (ty ry : Int) (kvs : List (Key × V)) (h1 : σ = [some (.ref hd), some (.int mo), some (.ref wd), some (.ref bk), some (.int lv), ky, none, none]) (h2 : Sit0 Hy hd wd WA D ty ry) (h3 : FrS (M0 hd WA) H1 Hy) (h4 : 0 <= ry) (h5 : ry <= 54) (h6 : ty + 25 * ry <= t1 + 1350 + 195 * (i : Int) + 15 * (j : Int)) (h7 : Hy bk = some (.dK kvs)) (h8 : BK H1 Hy kvs (13 * i + j)) : QInv mo H1 hd wd bk WA D t1 lv i j σ Hy
section
variable {P : Program} {w : World} {K : PySem.W.Frag} {mg : Str -> Option Value} {base : Heap} {f : Addr} {fd : FuncData}
abbrev nProg : List Str := ["_law_hand_here", "_law_most", "_law_world_here", "_law_done_by", "_law_level", "_law_kind", "_law_main", "_law_kinds"]
theorem zx8 : zd3 nProg ["_law_hand_here", "_law_most"] (zb7 yx3) := ⟨rfl, rfl, rfl, by decide +kernel, rfl, by decide +kernel, by decide +kernel⟩
set_option maxHeartbeats 8000000 in
theorem xw7 {k : Nat} (F : Fun K "_law_program" "_law_program" yx3 f fd) (T : Cal P w K mg base k "_law_take" ["_law_hand_here", "_law_many"] zh5) (O : Cal P w K mg base k "_law_of" ["_law_hand_here", "_law_some"] (spOf K))
  (W : Cal P w K mg base k "_law_world" ["_law_hand_here"] yp5) (DE : Cal P w K mg base k "_law_deed" xw8 ys9) (R : Cal P w K mg base k "_law_rows" zz9 (zx2 4)) (ml : mg "len" = none) (mr : mg "range" = none) (mtu : mg "tuple" = none) (mso : mg "sorted" = none) :
  FnOk P w K mg base CX0 (k + 1) f fd ["_law_hand_here", "_law_most"] xd4 := by
 obtain ⟨g, gd, GT, bT, kT, mT⟩ := T.ex
 obtain ⟨g2, gd2, GO, bO, kO, mO⟩ := O.ex
 obtain ⟨g3, gd3, GW, bW, kW, mW⟩ := W.ex
 obtain ⟨g4, gd4, GD, bD, kD, mD⟩ := DE.ex
 obtain ⟨g5, gd5, GR, bR, kR, mR⟩ := R.ex
 refine F.ok zx8 (fun vs H Q E h => ?_) (fun cdv A outer s H vs Q E hr h => ?_)
 ·obtain ⟨hd, mo, d, m, t, r, rfl, _⟩ := h
  rfl
 obtain ⟨hd, mo, d, m, t, r, rfl, hmo, hh, ht, q⟩ := h
 have hr0 : 0 <= mo - mo / 3 /\ mo - mo / 3 <= 54 := by omega
 have hr1 : 0 <= mo / 3 /\ mo / 3 <= 26 := by omega
 have hu := zm7 hr
 have nd3 : (["_law_name", "_law_elder", "_law_done_by"] : List Str).Nodup := by decide +kernel
 refine ⟨_, zb3 (zc3 (i := 2) zx8.nd rfl (Or.inl rfl) (zb8 GW hr rfl mW kW bW .nil zc6 (zb0 (pv 0) zb2)))
  (zb3 (zc3 (i := 3) zx8.nd rfl (Or.inr rfl) zq9)
  (zb3 (zt0 (zf7 zt8 (pv 1) (zf7 zx7 (pv 1) zb6)) (yc8 (pv 0) zb6 zp8))
  (zb3 (zg6 PassesOwn.never rfl (wb4 rfl mr (zb0 (zf7 zt8 (zd6 zf4 rfl ml PySem.boot_len (zb0 (zc9 hu (pv 2) zd5 (fun _ _ => rfl)) zb2)) zb6) (zb0 (yf3 zq5 zb6) (zb0 (yf3 zq5 zb6) zb2)))) (zc0 (i := 4) zx8.nd rfl (Or.inl rfl))
   (zb9 (zg6 PassesOwn.never rfl (zh0 (zc9 hu (zc9 hu (pv 2) zd5 (fun _ _ => rfl)) (eI (zc9 hu (pv 2) zd5 (fun _ _ => rfl)) (pv 4)) (fun _ _ => rfl))) (zc0 (i := 5) zx8.nd rfl (Or.inl rfl))
    (zb9 (zg2 (zk6 PySem.F.plainAttrs_list PySem.F.slot_list_append PySem.F.type_list_append zf0 (xx9 (pv 3) (pv 5) (zd7 zb2) ⟨rfl, rfl, rfl, rfl⟩) (zb0 (zb8 GD hr rfl mD kD bD .nil zc6 (zb0 (pv 0) (zb0 (pv 2) (zb0 (pv 5) (zb0 (pv 4) zb2))))) zb2)))))))
  (zb3 (zt0 (zf7 zp4 (eI (pv 0) zb6) (zf7 zx7 (pv 1) zb6)) (yc8 (pv 0) zb6 zp8))
  (zb3 (zc3 (i := 6) zx8.nd rfl (Or.inl rfl) (zb8 GR hr rfl mR kR bR .nil zc6 (zb0 (pv 0) (zb0 (pv 2) (zb0 zq9 (zb0 (yf3 zq5 zb6) (zb0 (zb8 GT hr rfl mT kT bT .nil zc6 (zb0 (pv 0) (zb0 zb6 zb2)))
   (zb0 (zb8 GO hr rfl mO kO bO .nil zc6 (zb0 (pv 0) (zb0 (zd7 (zf3 (zf3 (zf3 (zf3 zb2))))) zb2))) zb2))))))))
  (zb3 (zh1 (i := 7) (N' := ["_law_name", "_law_elder", "_law_done_by"]) (src := [none, none, some 3]) rfl zx8.nd rfl rfl ⟨rfl, by decide +kernel, by decide +kernel, rfl, rfl, rfl⟩
   (zh0 (zc9 hu (pv 2) zd5 (fun _ _ => rfl))) (g := gTup K 2 (zk1 (zf8 0) (zk1 (zf8 1) gNil))) (fun _ _ _ _ => zh4 (n := 2) rfl (zc1 (zc0 (i := 0) nd3 rfl (Or.inl rfl) (Or.inr rfl)) (zc1 (zc0 (i := 1) nd3 rfl (Or.inl rfl) (Or.inr rfl)) zg4)))
   (fun _ _ _ _ => zh3)
   (te := tTup (zc4 (tVar 0) (zc4 (tVar 1) (zc4 (tCB (fun xs H Q => ∃ p ys, xs = [.ref p] /\ ((SqL K H p ys /\ ∀ l, H l = none -> Q (.ref l) (upd H l (.tup ys))) ∨ (SqT K H p ys /\ Q (.ref p) H))) (zc4 (tRev K (xr7 (tVar 2) (tVar 0) (tLst tNil)) (tUn (rU fun i => .int (-i)) (tC (.int 1)))) tNil)) tNil))))
   (fun _ _ _ _ => zf6 (zb0 (pv 0) (zb0 (pv 1) (zb0 (zd1 zc8 rfl mtu (by decide +kernel) (zb0 (xr2 (xm0 hu (pv 2) (pv 0) (zd7 zb2) ⟨rfl, rfl, rfl, rfl⟩) (yf3 zq5 zb6)) zb2)) zb2)))))
  (zb9 (zd4 (zf6 (zb0 (zd1 zc8 rfl mtu (by decide +kernel) (zb0 (pv 7) zb2)) (zb0 (zd1 zc8 rfl mtu (by decide +kernel) (zb0 (zd6 zk0 rfl mso (by decide +kernel) (zb0 (zc9 hu (pv 2) zd5 (fun _ _ => rfl)) zb2)) zb2)) (zb0 (pv 6) zb2)))))))))))), ?_⟩
 first | dsimp only [cxOf, Cx.nox] | skip
 have s1 : ∀ {n : Nat}, n <= 1000 -> n < sizeLine := fun h => zc2 h
 refine ⟨_, rfl, hd, d, m, t, r, rfl, hh, by omega, fun wd WA D H1 t1 S1 f1 htold hheld ht1 => ?_⟩
 have h6 := S1.ok.d6
 have h12 := S1.ok.l12
 intro bk hbk
 have S2 := S1.fr0 (FrS.new (S := []) (o := .dK []) hbk)
 have hbkM : bk ∉ M0 hd WA := S1.notin hbk
 obtain ⟨d2, m2, hH2, ok2⟩ := S2.hand
 refine ⟨_, rfl, _, rfl, _, _, rfl, rfl, ⟨by omega, by decide⟩, _, _, rfl, rfl, _, rfl, hd, _, 3, 3, rfl, rfl, hH2, rfl, ?_⟩
 have hbkd : bk ≠ hd := fun z => hbkM (by rw [z]; simp)
 have S3 : Sit0 (upd (upd H1 bk (.dK [])) hd (hl d2 m2 t1 (mo - mo / 3))) hd wd WA D t1 (mo - mo / 3) := S2.setHand ok2
 have f3 : FrS (M0 hd WA) H1 (upd (upd H1 bk (.dK [])) hd (hl d2 m2 t1 (mo - mo / 3))) := (FrS.new hbk).put' (by trivial)
 have hbk3 : upd (upd H1 bk (.dK [])) hd (hl d2 m2 t1 (mo - mo / 3)) bk = some (.dK []) := by rw [zb5 hbkd]; exact zb1
 have hM : ∀ p, H1 p = none -> p ∉ M0 hd WA := fun p hp => S1.notin hp
 refine ⟨_, rfl, wd, _, rfl, S3.w.g.2.2.1, WA.deeds, _, rfl, .inl (SqL.of S3.w.deeds.2), _, _, rfl, rfl, _, rfl, _, rfl, _, _, rfl, ?_, ?_⟩
 ·rw [lqm]; exact ⟨by omega, by omega, by decide, by decide⟩
 have hdl0 : 1 <= D.deeds.length := List.length_pos_iff.mpr S1.ok.d1
 have en : (((D.deeds.map V.str).length : Int) - 1 - (-1)).toNat = D.deeds.length := by rw [lqm]; omega
 rw [en]
 refine xm2 (hi := (((D.deeds.map V.str).length : Nat) : Int) - 1) (n := D.deeds.length) (PInv mo H1 hd wd bk WA D t1)
  ⟨_, _, t1, mo - mo / 3, [], rfl, S3, f3, hr0.1, hr0.2, by omega, hbk3, by simp, (fun k v e => nomatch e)⟩ ?_ ?_
 ·rintro i σ Hx hi ⟨lx, kx, tx, rx, kvs, rfl, Sx, fx, hx0, hx1, hx2, hbx, hBK⟩
  have hlv : D.deeds.length - 1 - i < D.deeds.length := by omega
  have elv : (((D.deeds.map V.str).length : Nat) : Int) - 1 - (i : Int) = ((D.deeds.length - 1 - i : Nat) : Int) := by rw [lqm]; omega
  have hat : atI (D.deeds.map V.str) ((((D.deeds.map V.str).length : Nat) : Int) - 1 - (i : Int)) = some (.str D.deeds[D.deeds.length - 1 - i]) := by
   rw [elv]
   exact zq2 (by rw [List.getElem?_map, List.getElem?_eq_getElem hlv]; rfl)
  have hdn : D.deeds[D.deeds.length - 1 - i] ∈ D.deeds := List.getElem_mem hlv
  obtain ⟨op, os, o1, o2, o3, o4⟩ := S1.w.ol _ hdn
  have o2x := o2.keep fx
  refine ⟨_, rfl, wd, _, rfl, Sx.w.g.2.2.2.2.1, _, rfl, wd, _, rfl, Sx.w.g.2.2.1, _, rfl, WA.deeds, _, _, _, rfl, rfl, SqL.of Sx.w.deeds.2, hat, WA.owners, _, rfl, .inl ⟨_, Sum.inr _, .inl Sx.w.owners.2, rfl, o1.symm⟩, op, rfl, ⟨_, SqL.of o2x.2⟩, ?_⟩
  refine zn1 (xs := os.map V.str) (QInv mo H1 hd wd bk WA D t1 ((((D.deeds.map V.str).length : Nat) : Int) - 1 - (i : Int)) i)
   ⟨_, tx, rx, kvs, rfl, Sx, fx, hx0, hx1, by omega, hbx, hBK⟩ ?_ ?_ ?_
  ·rintro j σ Hy hj ⟨_, _, _, _, _, _, fy, _⟩
   exact SqL.of (o2.keep fy).2
  ·rintro j x σ Hy hx ⟨ky, ty, ry, kvs, rfl, Sy, fy, hy0, hy1, hy2, hby, hBKy⟩
   obtain ⟨hj, _⟩ := List.getElem?_eq_some_iff.mp hx
   rw [lqm] at hj
   rw [List.getElem?_map, List.getElem?_eq_getElem hj] at hx
   cases hx
   have hon : os[j] ∈ D.names := o3 _ (List.getElem_mem hj)
   refine ⟨_, rfl, bk, rfl, .inl ⟨_, .inl hby⟩, _, rfl, Nat.zero_le _, fun pe hpe => ?_⟩
   have Sz := Sy.fr0 (FrS.new (S := []) (o := .lst []) hpe)
   have fz : FrS (M0 hd WA) H1 (upd Hy pe (.lst [])) := fy.trans (FrS.new hpe)
   have hbz : upd Hy pe (.lst []) bk = some (.dK kvs) := by rw [zb5 (zb4 hby hpe)]; exact hby
   have hBKz : BK H1 (upd Hy pe (.lst [])) kvs (13 * i + j) := hBKy.keep (FrS.new hpe) hM (Tup.new hpe)
   have hpe1 : H1 pe = none := fy.old Sy.have_ hpe
   have hpez : upd Hy pe (.lst []) pe = some (.lst []) := zb1
   generalize upd Hy pe (.lst []) = Hz at Sz fz hbz hBKz hpez
   have go : ∀ (pl : Addr) (fs : List Addr) (kv' : List (Key × V)) (Hv : Hp), Sit0 Hv hd wd WA D ty ry -> FrS (M0 hd WA) H1 Hv -> Hv bk = some (.dK kv') -> BK H1 Hv kv' (13 * i + j + 1) -> Hv pl = some (.lst (fs.map V.ref)) -> fs.length <= 13 * i + j -> H1 pl = none -> Heads Hv fs ->
     tyV K "list" (.ref pl) Hv /\ (zc4 (zm2 ys9 [] E0 (zc4 (tVar 0) (zc4 (tVar 2) (zc4 (tVar 5) (zc4 (tVar 4) tNil))))) tNil) [some (.ref hd), some (.int mo), some (.ref wd), some (.ref bk), some (.int ((((D.deeds.map V.str).length : Nat) : Int) - 1 - (i : Int))), some (.str os[j]), none, none] Hv fun vs H2 => zq1 (.ref pl) vs H2 fun _ H1' =>
      QInv mo H1 hd wd bk WA D t1 ((((D.deeds.map V.str).length : Nat) : Int) - 1 - (i : Int)) i (j + 1) [some (V.ref hd), some (.int mo), some (.ref wd), some (.ref bk), some (.int ((((D.deeds.map V.str).length : Nat) : Int) - 1 - (i : Int))), some (.str os[j]), none, none] H1' := by
    intro pl fs kv' Hv Sv fv hbv hBKv hplv hxl hpl1 hgs
    refine ⟨.inl ⟨rfl, _, SqL.of hplv⟩, _, rfl, _, rfl, _, rfl, _, rfl, hd, wd, WA, D, ty, ry, os[j], D.deeds.length - 1 - i, by rw [elv]; rfl, hon, hlv, Sv, hy0, by omega, fun xn dn pv gv ln rsn fsn Hw tw rw' hxw hlw hfw hnw Sw fw hw0 hw1 hw2 => ?_⟩
    have hplw := fw _ _ (hM pl hpl1) hplv
    have hbw := fw _ _ hbkM hbv
    have tpw : Tup Hv Hw := Sv.tup fw
    have hgw : Heads Hw (fs ++ [xn]) := fun f hf => by
     rcases List.mem_append.mp hf with hf | hf
     ·exact (hgs.keep tpw) f hf
     ·have e : f = xn := by simpa using hf
      rw [e]; exact ⟨(dn, ln, rsn, fsn), pv, gv, hxw, hlw, hfw, by show fsn.length <= 80; omega⟩
    have So := Sit0.own (o := .lst ((fs ++ [xn]).map V.ref)) S1 Sw (fv.trans fw) hpl1
    have ea : fs.map V.ref ++ [V.ref xn] = (fs ++ [xn]).map V.ref := by rw [List.map_append]; rfl
    refine ⟨pl, _, _, rfl, rfl, hplw, s1 (by rw [lqm]; omega), ?_⟩
    rw [ea]
    refine ⟨_, tw, rw', kv', rfl, So.1, So.2, hw0, by omega, by omega, ?_, ?_⟩
    ·rw [zb5 (fun z => by rw [z, hplw] at hbw; cases hbw)]; exact hbw
    ·exact (hBKv.keep fw hM tpw).app hplw (by rw [List.length_append, List.length_singleton]; omega) hgw
   refine ⟨kvs, Sum.inr os[j], hbz, rfl, s1 (by have := hBKz.1; omega), fun v hv => ?_, fun hv => ?_⟩
   ·obtain ⟨pl, xs, rfl, a1, a2, a3, a4⟩ := hBKz.2 _ _ hv
    exact go pl xs kvs Hz Sz fz hbz (hBKz.more (by omega)) a1 a2 a3 a4
   ·have So := Sit0.own (o := .dK (putK kvs (Sum.inr os[j]) (.ref pe))) S1 Sz fz hbk
    have hbp : pe ≠ bk := fun z => by rw [z, hbz] at hpez; cases hpez
    refine go pe [] (putK kvs (Sum.inr os[j]) (.ref pe)) _ So.1 So.2 zb1 ?_ (by rw [zb5 hbp]; exact hpez) (Nat.zero_le _) hpe1 (fun _ h => by cases h)
    have h1 := hBKz.put (fs := []) (k := (Sum.inr os[j] : Key)) hpez (Nat.zero_le _) hpe1 (fun _ h => by cases h)
    refine ⟨h1.1, fun k v e => ?_⟩
    obtain ⟨p', xs', b1, b2, b3, b4, b5⟩ := h1.2 k v e
    exact ⟨p', xs', b1, by rw [zb5 (fun z => by rw [z, hbz] at b2; cases b2)]; exact b2, b3, b4, b5.keep (Tup.dk hbz)⟩
  ·rintro σ Hy ⟨ky, ty, ry, kvs, rfl, Sy, fy, hy0, hy1, hy2, hby, hBKy⟩
   rw [lqm] at hy2 hBKy
   exact ⟨_, _, ty, ry, kvs, rfl, Sy, fy, hy0, hy1, by omega, hby, hBKy.more (by omega)⟩
 rintro σ H4 ⟨lx, kx, t4, r4, kvs, rfl, S4, f4, h40, h41, h42, hb4, hBK4⟩
 obtain ⟨d4, m4, hH4, ok4⟩ := S4.hand
 refine ⟨_, rfl, hd, _, _, _, rfl, rfl, SqL.of hH4, at3, _, rfl, _, _, rfl, rfl, ⟨by omega, by decide⟩, _, _, rfl, rfl, _, rfl, hd, _, 3, 3, rfl, rfl, hH4, rfl, ?_⟩
 have S5 : Sit0 (upd H4 hd (hl d4 m4 t4 (r4 + mo / 3))) hd wd WA D t4 (r4 + mo / 3) := S4.setHand ok4
 have f5 : FrS (M0 hd WA) H1 (upd H4 hd (hl d4 m4 t4 (r4 + mo / 3))) := f4.put' (by trivial)
 have hb5 : upd H4 hd (hl d4 m4 t4 (r4 + mo / 3)) bk = some (.dK kvs) := by rw [zb5 hbkd]; exact hb4
 have hBK5 : BK H1 (upd H4 hd (hl d4 m4 t4 (r4 + mo / 3))) kvs (13 * D.deeds.length) := hBK4.keep (M := M0 hd WA) (FrS.chg (.head _)) hM (S4.tup (FrS.chg (.head _)))
 have toS : ∀ {G : Hp -> Prop}, G (upd H4 hd (hl d4 m4 t4 (r4 + mo / 3))) -> G (upd H4 hd (.lst ([V.int d4, V.int m4, V.int t4, V.int r4].set 3 (V.int (r4 + mo / 3))))) := fun h => h
 refine toS ?_
 generalize upd H4 hd (hl d4 m4 t4 (r4 + mo / 3)) = H5 at S5 f5 hb5 hBK5
 refine ⟨_, rfl, _, rfl, fun en' hen => ?_⟩
 have hen1 : H1 en' = none := f5.old S5.have_ hen
 have Se : Sit (upd H5 en' (.dK [])) hd en' wd WA D t4 (r4 + mo / 3) := S5.open hen DOk.nil
 have fcl : ∀ Hf : Hp, FrS (Ms hd en' WA) (upd H5 en' (.dK [])) Hf -> FrS (M0 hd WA) H5 Hf := fun Hf ff => FrS.close hen ff
 generalize upd H5 en' (.dK []) = H6 at Se fcl
 obtain ⟨d, m, hh6⟩ := Se.hand
 refine ⟨_, rfl, _, rfl, hd, d, m, t4, r4 + mo / 3, 5, rfl, hh6, by omega, by decide, by decide, fun x d7 m7 t7 x0 x1 c7 e7 => ?_⟩
 obtain ⟨dp, rfl⟩ : ∃ dp : Nat, x = (dp : Int) := ⟨x.toNat, by omega⟩
 have S7 := Se.setHand (r' := r4 + mo / 3) c7
 have f7 : FrS (Ms hd en' WA) H6 (upd H6 hd (hl d7 m7 t7 (r4 + mo / 3))) := FrS.chg (by trivial)
 refine ⟨_, rfl, by show 4 <= sizeLine; exact Nat.le_of_lt (s1 (by decide)), fun pi hpi => ?_⟩
 have Sa := S7.fr0 (FrS.new (S := []) (o := .lst [V.int 4, V.int 8, V.int 12, V.int 20]) hpi)
 have fa := f7.trans (FrS.new (o := .lst [V.int 4, V.int 8, V.int 12, V.int 20]) hpi)
 have hpid : pi ≠ hd := fun z => S7.notin hpi (by rw [z]; simp)
 obtain ⟨d, m, hh7⟩ := Sa.hand
 refine ⟨hd, pi, d, m, t7, r4 + mo / 3, _, rfl, hh7, by omega, hpid, SqL.of zb1, by simp, by show 4 < 1000; decide, fun y db mb tb hy cb eb => ?_⟩
 obtain ⟨mq, rfl, mo0, mo1⟩ : ∃ mq : Int, y = .int mq /\ 0 <= mq /\ mq <= 100 := by
  simp only [List.mem_cons, List.not_mem_nil, or_false] at hy
  rcases hy with rfl | rfl | rfl | rfl
  ·exact ⟨4, rfl, by decide, by decide⟩
  ·exact ⟨8, rfl, by decide, by decide⟩
  ·exact ⟨12, rfl, by decide, by decide⟩
  ·exact ⟨20, rfl, by decide, by decide⟩
 have Sb := Sa.setHand (r' := r4 + mo / 3) cb
 have fb := fa.put' (a := hd) (o := hl db mb tb (r4 + mo / 3)) (by trivial)
 refine ⟨hd, en', wd, WA, D, tb, r4 + mo / 3, -1, mq, dp, rfl, by omega, mo0, mo1, Sb, by omega, by omega, fun mv rsm fsm Hc tc rc hmv hfm hnm Sc fc hc0 hc1 hc2 => ?_⟩
 have f8 := fcl _ (fb.trans fc)
 have S8 := Sc.close
 have hb8 := f8 _ _ hbkM hb5
 have hBK8 := hBK5.keep f8 hM (S5.tup f8)
 have hm8 : RowsIs Hc ("", mv, rsm, fsm) := ⟨hmv, hfm, by show fsm.length <= 80; omega⟩
 have f18 := f5.trans f8
 generalize Hc = H8 at f8 S8 hb8 hBK8 f18 hm8
 obtain ⟨ts, t1', t2', t3'⟩ := S8.w.tree
 refine ⟨_, rfl, wd, _, rfl, S8.w.g.1, WA.tree, rfl, ⟨_, SqL.of t1'.2⟩, fun Dl hDl => ?_⟩
 refine zj7 (xs := ts.map V.ref) (fun i σ Hx => (∃ x y, σ = [x, y, some (.ref bk)]) /\ FrS [] H8 Hx /\ ∃ us : List Addr, us.length = i /\ Hx Dl = some (.lst (us.map V.ref)) /\ A2 (KAt Hx) us (D.tr.take i)) ⟨⟨_, _, rfl⟩, (FrS.refl).put hDl, [], rfl, zb1, .nil⟩ ?_ ?_ ?_
 ·rintro i σ Hx hi ⟨_, fx, _⟩
  exact SqL.of (fx _ _ (by trivial) t1'.2)
 ·rintro i x σ Hx hx ⟨⟨x0', y0', rfl⟩, fx, us, hul, hDx, hus⟩
  rw [List.getElem?_map] at hx
  obtain ⟨tt, htt', rfl⟩ := Option.map_eq_some_iff.mp hx
  obtain ⟨hi, _⟩ := List.getElem?_eq_some_iff.mp htt'
  have htr : D.tr[i]? = some D.tr[i] := List.getElem?_eq_getElem (by omega)
  have e3 := t3' i tt _ htt' htr
  have hbx := fx _ _ (by trivial) hb8
  refine ⟨tt, _, rfl, SqT.of (fx _ _ (by trivial) e3.2), rfl, _, _, rfl, _, _, rfl, rfl, ?_⟩
  refine ⟨_, rfl, _, rfl, _, rfl, bk, rfl, .inl ⟨_, .inl hbx⟩, _, rfl, Nat.zero_le _, fun pd hpd => ?_⟩
  have f9 : FrS [] Hx (upd Hx pd (.lst [])) := FrS.new hpd
  have hb9 := f9 _ _ (by trivial) hbx
  have hD9 := f9 _ _ (by trivial) hDx
  have hp9 : upd Hx pd (.lst []) pd = some (.lst []) := zb1
  generalize upd Hx pd (.lst []) = H9 at f9 hb9 hD9 hp9
  have f89 : FrS [] H8 H9 := fx.trans f9
  obtain ⟨pz, zs, hpz, hHz, hzl, hzg⟩ : ∃ (pz : Addr) (zs : List Addr), (valV kvs (Sum.inr D.tr[i].1)).getD (.ref pd) = .ref pz /\ H9 pz = some (.lst (zs.map V.ref)) /\ zs.length <= 80 /\ Heads H9 zs := by
   cases hv : valV kvs (Sum.inr D.tr[i].1) with
   | none => exact ⟨pd, [], rfl, hp9, Nat.zero_le _, fun _ h => by cases h⟩
   | some v =>
    obtain ⟨p', xs', b1, b2, b3, _, b5⟩ := hBK8.2 _ _ hv
    exact ⟨p', xs', b1, f89 _ _ List.not_mem_nil b2, by omega, b5.keep (Tup.of0 f89)⟩
  refine ⟨_, DGet.k (k := (Sum.inr D.tr[i].1 : Key)) hb9, _, rfl, rfl, pz, _, hpz, SqL.of hHz, fun pv' hpv => ?_⟩
  rw [← List.map_reverse]
  refine ⟨pv', _, rfl, .inl ⟨SqL.of zb1, fun pu hpu => ?_⟩⟩
  refine ⟨by show 3 <= sizeLine; exact Nat.le_of_lt (s1 (by decide)), fun pt hpt => ?_⟩
  have fA : FrS [] H9 (upd (upd H9 pv' (.lst (zs.reverse.map V.ref))) pu (.tup (zs.reverse.map V.ref))) := (FrS.new hpv).trans (FrS.new hpu)
  have hpuA : upd (upd H9 pv' (.lst (zs.reverse.map V.ref))) pu (.tup (zs.reverse.map V.ref)) pu = some (.tup (zs.reverse.map V.ref)) := zb1
  have hDA := fA _ _ (by trivial) hD9
  have hAg : Heads (upd (upd H9 pv' (.lst (zs.reverse.map V.ref))) pu (.tup (zs.reverse.map V.ref))) zs.reverse := fun f hf => let ⟨z, e⟩ := hzg f (List.mem_reverse.mp hf); ⟨z, e.keep (Tup.of0 fA)⟩
  generalize upd (upd H9 pv' (.lst (zs.reverse.map V.ref))) pu (.tup (zs.reverse.map V.ref)) = HA at fA hDA hpt hpuA hAg
  have hDt : Dl ≠ pt := zb4 hDA hpt
  have hDB : upd HA pt (.tup [V.str D.tr[i].1, eldV D.tr[i].2, V.ref pu]) Dl = some (.lst (us.map V.ref)) := by rw [zb5 hDt]; exact hDA
  refine ⟨_, hDB, by rw [lqm]; exact s1 (by omega), ⟨_, _, rfl⟩, (((fx.trans f9).trans fA).trans (FrS.new hpt)).put hDl, us ++ [pt], by rw [List.length_append, hul]; rfl, by rw [zb1, List.map_append]; rfl, ?_⟩
  have tl : Tup (upd HA pt (.tup [V.str D.tr[i].1, eldV D.tr[i].2, V.ref pu])) (upd (upd HA pt (.tup [V.str D.tr[i].1, eldV D.tr[i].2, V.ref pu])) Dl (.lst (us.map V.ref ++ [V.ref pt]))) := Tup.lst hDB
  have tn := (Tup.new (o := .tup [V.str D.tr[i].1, eldV D.tr[i].2, V.ref pu]) hpt).trans tl
  rw [List.take_add_one, htr]
  exact (hus.imp fun u z h => h.keep (((Tup.of0 (f9.trans fA)).trans (Tup.new hpt)).trans tl)).snoc ⟨pu, zs.reverse, tl _ _ zb1, tn _ _ hpuA, by rw [List.length_reverse]; exact hzl, hAg.keep tn⟩
 rintro σ H9 ⟨_, f9, us, hul, hD9, hus⟩
 rw [lqm] at hul hus
 rw [List.take_of_length_le (by omega)] at hus
 refine ⟨_, rfl, Dl, _, rfl, .inl ⟨SqL.of hD9, fun kt hkt => ?_⟩⟩
 have fA : FrS [] H9 (upd H9 kt (.tup (us.map V.ref))) := FrS.new hkt
 have hktA : upd H9 kt (.tup (us.map V.ref)) kt = some (.tup (us.map V.ref)) := zb1
 generalize upd H9 kt (.tup (us.map V.ref)) = HA at fA hktA
 have SA := (S8.fr0 f9).fr0 fA
 refine ⟨_, rfl, wd, _, rfl, SA.w.g.2.1, WA.late, D.late, rfl, SqL.of SA.w.late.2, by have := SA.ok.lateLen; omega, fun ls ss' hls hperm _ => ?_⟩
 refine ⟨ls, _, rfl, .inl ⟨SqL.of zb1, fun lt hlt => ?_⟩⟩
 refine ⟨_, rfl, by show 3 <= sizeLine; exact Nat.le_of_lt (s1 (by decide)), fun pr hpr => ?_⟩
 have fB : FrS [] HA (upd (upd (upd HA ls (.lst (ss'.map V.str))) lt (.tup (ss'.map V.str))) pr (.tup [V.ref kt, V.ref lt, V.ref mv])) := ((FrS.new hls).trans (FrS.new hlt)).trans (FrS.new hpr)
 have fAll : FrS [] H8 _ := (f9.trans fA).trans fB
 obtain ⟨ks, kd3, kd4⟩ := mk_ks (H := H9) us _ hus
 have tAB := Tup.of0 (fA.trans fB)
 have t9B := (Tup.of0 f9).trans tAB
 have SB := SA.fr0 fB
 obtain ⟨dh, mh, hHf⟩ := SB.hand
 refine q pr ks ("", mv, rsm, fsm) D.tr _ dh mh tc rc ?_ ⟨kt, us, V.ref lt, zb1, fB _ _ List.not_mem_nil hktA, kd3, fun j u z hu' hz => (kd4 j u z hu' hz).keep tAB, hm8.keep t9B, by omega⟩ ⟨kt, us, V.ref lt, V.ref mv, zb1, fB _ _ List.not_mem_nil hktA, hus.len, fun j u z hu' hz => ?_⟩ S1.ok.ok h12 ⟨kt, lt, _, ss', zb1, ?_, by rw [hperm.length_eq]; have := SA.ok.lateLen; omega⟩ hHf (by omega)
 ·intro b o n e
  refine fAll _ _ (by trivial) (f18 b o (fun z => ?_) (f1 b o n e))
  simp only [M0, List.mem_cons, List.not_mem_nil, or_false] at z
  rcases z with z | z | z
  ·exact n (by rw [z]; simp)
  ·exact zb4 e htold z
  ·exact zb4 e hheld z
 ·obtain ⟨z', hz', dt, fs, e1, _⟩ := hus.get hu'
  rw [hz] at hz'
  cases hz'
  exact ⟨_, tAB _ _ e1⟩
 ·exact (Tup.new hpr) _ _ zb1
end
end Gn
end
section
namespace Gn
open PySem L2
abbrev zs0 : Stmt := top 7
abbrev zr8 : Stmt := top 8
abbrev sLay : Stmt := top 9
abbrev yw3 : Stmt := top 10
abbrev yb1 : Stmt := top 12
theorem yw4 (x : V) (xs : List V) : atI (x :: xs) 0 = some x := by
 unfold atI ixN
 simp
theorem zm0 {K : PySem.W.Frag} {a : Addr} {xs : List V} {g : TG} {tb : TS} {D : Ends} {σ : St} {H : Hp} (Pv : Nat -> St -> Hp -> Prop) (h0 : Pv 0 σ H) (hl : ∀ i σ H, i <= xs.length -> Pv i σ H -> SqT K H a xs)
  (hs : ∀ i x σ H, xs[i]? = some x -> Pv i σ H -> g x σ H fun σ2 H2 => tb { D with nx := Pv (i + 1), ct := Pv (i + 1), bk := D.nx } σ2 H2) (hd : ∀ σ H, Pv xs.length σ H -> D.nx σ H) :
  ∃ W : Nat -> Nat -> St -> Hp -> Prop, (∃ m, W 0 m σ H) /\ ∀ i m σ H, W i m σ H ->
   ((Itt K a).stop i H /\ D.nx σ H) ∨ ((Itt K a).go i H /\ ∃ N : St -> Hp -> Prop, (∀ σ' H', N σ' H' -> ∃ m', m' < m /\ W (i + 1) m' σ' H') /\ ∀ x H', (Itt K a).yld i H x H' -> g x σ H' fun σ2 H2 => tb { D with nx := N, ct := N, bk := D.nx } σ2 H2) := by
 refine ⟨fun i m σ H => m = xs.length - i /\ i <= xs.length /\ Pv i σ H, ⟨xs.length, by simp, Nat.zero_le _, h0⟩, ?_⟩
 rintro i m σ H ⟨rfl, hi, p⟩
 have q := hl i σ H hi p
 by_cases hlt : i < xs.length
 ·refine .inr ⟨⟨xs, xs[i], q, List.getElem?_eq_getElem hlt⟩, Pv (i + 1), fun σ' H' p' => ⟨xs.length - (i + 1), by omega, rfl, hlt, p'⟩, fun x H' y => ?_⟩
  obtain ⟨e, y⟩ := y
  subst e
  exact hs i x σ _ (y xs q) p
 ·have e : i = xs.length := by omega
  subst e
  exact .inl ⟨⟨xs, q, Nat.le_refl _⟩, hd σ H p⟩
theorem zm3 {K : PySem.W.Frag} {a : Addr} {xs : List V} {g : TG} {tt : TT} {te : TE} {D : Addr} {σ0 : St} {H0 : Hp} {Q : Hp -> Prop} (Pv : Nat -> St -> Hp -> Prop) (h0 : Pv 0 σ0 H0) (hl : ∀ i σ H, i <= xs.length -> Pv i σ H -> SqT K H a xs)
  (hs : ∀ i x σ H, xs[i]? = some x -> Pv i σ H -> g x σ H fun σ2 H2 => tt σ2 H2 fun b H3 => if b = true then te σ2 H3 fun v H4 => ∃ ys, H4 D = some (.lst ys) /\ ys.length < sizeLine /\ Pv (i + 1) σ2 (upd H4 D (.lst (ys ++ [v]))) else Pv (i + 1) σ2 H3)
  (hd : ∀ σ H, Pv xs.length σ H -> Q H) : zz8 (Itt K a) g tt te D σ0 H0 Q := by
 refine ⟨fun i m σ H => m = xs.length - i /\ i <= xs.length /\ Pv i σ H, ⟨xs.length, by simp, Nat.zero_le _, h0⟩, ?_⟩
 rintro i m σ H ⟨rfl, hi, p⟩
 have q := hl i σ H hi p
 by_cases hlt : i < xs.length
 ·refine .inr ⟨⟨xs, xs[i], q, by simp [hlt]⟩, Pv (i + 1), fun σ' H' p' => ⟨xs.length - (i + 1), by omega, rfl, hlt, p'⟩, fun x H' y => ?_⟩
  obtain ⟨e, y⟩ := y
  subst e
  exact hs i x σ _ (y xs q) p
 ·have e : i = xs.length := by omega
  subst e
  exact .inl ⟨⟨xs, q, Nat.le_refl _⟩, hd σ H p⟩
theorem zp9 {n : Nat} (h : n <= 1000000) : n < sizeLine := Nat.lt_of_le_of_lt h (by decide)
theorem cut1 (x : V) (rest : List V) : cutV (x :: rest) (some 1) none = rest := by
 unfold cutV HT.sIx
 simp
def zj5 (w : Str) (rest : List V) : List V := if w = "either" ∨ w = "again" then rest else []
inductive yq5 (vs : List V) (H : Hp) (Q : VK) : Prop
 | mk (a : Addr) (w : Str) (rest : List V) (h1 : vs = [.ref a]) (h2 : H a = some (.tup (.str w :: rest))) (h3 : ∀ p, H p = none -> Q (.ref p) (upd H p (.tup (zj5 w rest)))) : yq5 vs H Q
def yd2 : Sp := fun vs H Q _ => yq5 vs H Q
section
variable {P : Program} {w : World} {K : PySem.W.Frag} {mg : Str -> Option Value} {base : Heap} {f : Addr} {fd : FuncData}
theorem xn1 : zd3 ["row"] ["row"] (zb7 zr8) := ⟨rfl, rfl, rfl, by decide +kernel, rfl, by decide +kernel, by decide +kernel⟩
theorem yz2 {k : Nat} {ah : Addr} (F : Fun K "rows_within" "rows_within" zr8 f fd) (mH : mg "HOLDERS" = some (.ref ah)) (hH : ∀ H, SqT K H ah [.str "either", .str "again"]) : FnOk P w K mg base CX0 (k + 1) f fd ["row"] yd2 := by
 refine F.ok xn1 (fun vs H Q E h => ?_) (fun cdv A outer s H vs Q E hr h => ?_)
 ·obtain ⟨a, w, rest, rfl, _⟩ := h
  rfl
 obtain ⟨a, w, rest, rfl, ha, q⟩ := h
 refine ⟨_, zb3 (zh9 (zc7 zg9 (eT (pv 0) zb6) (ym3 (v := .ref ah) rfl mH rfl) rfl)
   (zb9 (zd4 (zj8 xv2 (pv 0) (zk8 zb6) zm1))) zd9)
  (zb9 (zd4 (zf6 zb2))), ?_⟩
 first | dsimp only [cxOf, Cx.nox] | skip
 have ei : inV (.str w) [.str "either", .str "again"] = decide (w = "either" ∨ w = "again") := by
  have := zn0 w ["either", "again"]
  simpa using this
 refine ⟨_, rfl, a, _, _, .str w, rfl, rfl, SqT.of ha, yw4 _ _, ah, _, rfl, .inr (hH _), rfl, rfl, _, rfl, ?_⟩
 show if inV (.str w) [.str "either", .str "again"] = true then _ else _
 rw [ei]
 refine ite2 (fun c => ?_) (fun c => ?_)
 ·have c' := of_decide_eq_true c
  refine ⟨_, rfl, _, rfl, a, _, rfl, SqT.of ha, ?_, fun p hp => ?_⟩
  ·intro z
   have := z.1
   unfold HT.sIx at this
   simp at this
  ·have := q p hp
   unfold zj5 at this
   rw [if_pos c'] at this
   rw [cut1]
   exact this
 ·have c' : ¬ (w = "either" ∨ w = "again") := fun z => c (decide_eq_true z)
  refine ⟨Nat.zero_le _, fun p hp => ?_⟩
  have := q p hp
  unfold zj5 at this
  rw [if_neg c'] at this
  exact this
end
end Gn
end
section
namespace Gn
open PySem L2
abbrev Bz := (Str × Str) × Dz
def zg0 (y : Str × List Dz) : List Bz := y.2.map fun z => ((y.1, z.1), z)
def zf1 (ks : List (Str × List Dz)) (m0 : Dz) : List Bz := (("", ""), m0) :: ks.flatMap zg0
def BT (K : PySem.W.Frag) (H : Hp) (bd : Addr) (n : Str × Str) : Prop := H bd = some (.tup [.str n.1, .str n.2]) ∨ ∀ H', SqT K H' bd [.str n.1, .str n.2]
theorem BT.keep {K : PySem.W.Frag} {H H' : Hp} {bd : Addr} {n : Str × Str} (h : BT K H bd n) (f : Tup H H') : BT K H' bd n := h.imp (f _ _) id
theorem BT.sq {K : PySem.W.Frag} {H : Hp} {bd : Addr} {n : Str × Str} (h : BT K H bd n) : SqT K H bd [.str n.1, .str n.2] := h.elim SqT.of fun g => g H
inductive BodyIs (K : PySem.W.Frag) (H : Hp) (q : Addr) (z : Bz) : Prop
 | mk (bd : Addr) (h1 : H q = some (.tup [.ref bd, .ref z.2.2.1])) (h2 : BT K H bd z.1) : BodyIs K H q z
theorem BodyIs.keep {K : PySem.W.Frag} {H H' : Hp} {q : Addr} {z : Bz} (h : BodyIs K H q z) (f : Tup H H') : BodyIs K H' q z := by
 obtain ⟨bd, h1, h2⟩ := h
 exact ⟨bd, f _ _ h1, h2.keep f⟩
theorem _root_.L2.A2.bkeep {K : PySem.W.Frag} {H H' : Hp} {qs : List Addr} {L : List Bz} (h : A2 (BodyIs K H) qs L) (f : Tup H H') : A2 (BodyIs K H') qs L := h.imp fun _ _ g => g.keep f
inductive yt4 (K : PySem.W.Frag) (vs : List V) (H : Hp) (Q : VK) : Prop
 | mk (p : Addr) (ks : List (Str × List Dz)) (m0 : Dz) (h1 : vs = [.ref p]) (h2 : ProgIs H p ks m0) (h3 : ∀ (b : Addr) (qs : List Addr) (H' : Hp), FrS [] H H' -> H' b = some (.tup (qs.map V.ref)) -> A2 (BodyIs K H') qs (zf1 ks m0) -> qs.length <= 1000 -> Q (.ref b) H') : yt4 K vs H Q
def zv6 (K : PySem.W.Frag) : Sp := fun vs H Q _ => yt4 K vs H Q
inductive BoI (K : PySem.W.Frag) (H1 : Hp) (p fd : Addr) (L : List Bz) (c : Nat) (σ : St) (Hx : Hp) : Prop
 | mk (a b d e g h i : Option V) (qs : List Addr) (hσ : σ = [some (.ref p), some (.ref fd), a, b, d, e, g, h, i]) (fr : FrS [] H1 Hx) (hf : Hx fd = some (.lst (qs.map V.ref))) (ha : A2 (BodyIs K Hx) qs L) (hc : qs.length <= c) : BoI K H1 p fd L c σ Hx
inductive BoJ (K : PySem.W.Frag) (H1 : Hp) (p fd : Addr) (n : Str) (e : V) (dt : Addr) (L : List Bz) (c : Nat) (σ : St) (Hx : Hp) : Prop
 | mk (a b d f : Option V) (qs : List Addr) (hσ : σ = [some (.ref p), some (.ref fd), some (.str n), some e, some (.ref dt), a, b, d, f]) (fr : FrS [] H1 Hx) (hf : Hx fd = some (.lst (qs.map V.ref))) (ha : A2 (BodyIs K Hx) qs L) (hc : qs.length <= c) : BoJ K H1 p fd n e dt L c σ Hx
section
variable {P : Program} {w : World} {K : PySem.W.Frag} {mg : Str -> Option Value} {base : Heap} {f : Addr} {fd : FuncData}
theorem zk2 : zd3 ["program", "found", "name", "elder", "deeds", "deed", "params", "rows", "gives"] ["program"] (zb7 zs0) := ⟨rfl, rfl, rfl, by decide +kernel, rfl, by decide +kernel, by decide +kernel⟩
theorem xd9 {k : Nat} {am : Addr} (F : Fun K "bodies" "bodies" zs0 f fd) (mM : mg "MAIN" = some (.ref am)) (hM : ∀ H, SqT K H am [.str "", .str ""]) (mtu : mg "tuple" = none) : FnOk P w K mg base CX0 (k + 1) f fd ["program"] (zv6 K) := by
 refine F.ok zk2 (fun vs H Q E h => ?_) (fun cdv A outer s H vs Q E hr h => ?_)
 ·obtain ⟨p, ks, m0, rfl, _⟩ := h
  rfl
 obtain ⟨p, ks, m0, rfl, ⟨kt, us, lt, hp, hk, hlen, hks, hm, h12⟩, q⟩ := h
 refine ⟨_, zb3 (zc3 (i := 1) zk2.nd rfl (Or.inl rfl) (zd7 (zb0 (zf6 (zb0 (ym3 (v := .ref am) rfl mM rfl) (zb0 (eT (pv 0) zb6) zb2))) zb2)))
  (zb3 (zg6 PassesOwn.never rfl (zj9 (eT (pv 0) zb6)) (zh4 (n := 3) rfl (zc1 (zc0 (i := 2) zk2.nd rfl (Or.inl rfl)) (zc1 (zc0 (i := 3) zk2.nd rfl (Or.inl rfl)) (zc1 (zc0 (i := 4) zk2.nd rfl (Or.inl rfl)) zg4))))
   (zb9 (zg6 PassesOwn.never rfl (zj9 (pv 4)) (zh4 (n := 4) rfl (zc1 (zc0 (i := 5) zk2.nd rfl (Or.inl rfl)) (zc1 (zc0 (i := 6) zk2.nd rfl (Or.inl rfl)) (zc1 (zc0 (i := 7) zk2.nd rfl (Or.inl rfl)) (zc1 (zc0 (i := 8) zk2.nd rfl (Or.inl rfl)) zg4)))))
    (zb9 (zg2 (zk6 PySem.F.plainAttrs_list PySem.F.slot_list_append PySem.F.type_list_append zf0 (pv 1) (zb0 (zf6 (zb0 (zf6 (zb0 (pv 2) (zb0 (pv 5) zb2))) (zb0 (pv 7) zb2))) zb2)))))))
  (zb9 (zd4 (zd1 zc8 rfl mtu (by decide +kernel) (zb0 (pv 1) zb2))))), ?_⟩
 first | dsimp only [cxOf, Cx.nox] | skip
 have s2 : 2 <= sizeLine := Nat.le_of_lt (zc2 (by decide))
 have s0 : 1 <= sizeLine := Nat.le_of_lt (zc2 (by decide))
 refine ⟨_, rfl, p, _, _, _, rfl, rfl, SqT.of hp, rfl, s2, fun pt hpt => ⟨s0, fun fl hfl => ?_⟩⟩
 have f0 : FrS [] H (upd (upd H pt (.tup [.ref am, .ref m0.2.1])) fl (.lst ([pt].map V.ref))) := (FrS.new hpt).trans (FrS.new hfl)
 have hflH : H fl = none := yg8 (FrS.new hpt) hfl
 refine ⟨_, rfl, p, _, _, _, rfl, rfl, SqT.of (f0 _ _ List.not_mem_nil hp), rfl, kt, rfl, ⟨_, SqT.of (f0 _ _ List.not_mem_nil hk)⟩, ?_⟩
 refine zm0 (xs := us.map V.ref) (fun i => BoI K H p fl (zf1 (ks.take i) m0) (1 + 80 * i)) ⟨_, _, _, _, _, _, _, [pt], rfl, f0, zb1, .cons ⟨am, (Tup.new hfl) _ _ zb1, .inr hM⟩ .nil, Nat.le_refl _⟩ ?_ ?_ ?_
 ·rintro i σ Hx hi ⟨_, _, _, _, _, _, _, _, _, fr, _⟩
  exact SqT.of (fr _ _ List.not_mem_nil hk)
 ·rintro i x σ Hx hx ⟨_, _, _, _, _, _, _, qs, rfl, fr, hfx, ha, hc⟩
  rw [List.getElem?_map, Option.map_eq_some_iff] at hx
  obtain ⟨u, hu, rfl⟩ := hx
  have hi : i < ks.length := by rw [← hlen]; exact (List.getElem?_eq_some_iff.mp hu).1
  have hy : ks[i]? = some ks[i] := List.getElem?_eq_getElem hi
  obtain ⟨e, dt, ds, d1, d2, d3, d4, d5⟩ := hks i u _ hu hy
  have eL : zf1 (ks.take (i + 1)) m0 = zf1 (ks.take i) m0 ++ zg0 ks[i] := by
   unfold zf1
   rw [List.take_add_one, hy, List.flatMap_append, List.cons_append]
   simp
  rw [eL]
  generalize ks[i] = y at d1 d3 d4
  refine ⟨u, _, rfl, SqT.of (fr _ _ List.not_mem_nil d1), rfl, _, _, rfl, _, _, rfl, _, _, rfl, rfl, ?_⟩
  refine ⟨_, rfl, dt, rfl, ⟨_, SqT.of (fr _ _ List.not_mem_nil d2)⟩, ?_⟩
  refine zm0 (xs := ds.map V.ref) (fun j => BoJ K H p fl y.1 e dt (zf1 (ks.take i) m0 ++ (zg0 y).take j) (1 + 80 * i + j)) ⟨_, _, _, _, qs, rfl, fr, hfx, by rw [List.take_zero, List.append_nil]; exact ha, hc⟩ ?_ ?_ ?_
  ·rintro j σ Hy hj ⟨_, _, _, _, _, _, fy, _⟩
   exact SqT.of (fy _ _ List.not_mem_nil d2)
  ·rintro j x σ Hy hx ⟨_, _, _, _, qs, rfl, fy, hfy, ha, hc⟩
   rw [List.getElem?_map, Option.map_eq_some_iff] at hx
   obtain ⟨g, hg, rfl⟩ := hx
   have hj : j < y.2.length := by rw [← d3]; exact (List.getElem?_eq_some_iff.mp hg).1
   have hz : y.2[j]? = some y.2[j] := List.getElem?_eq_getElem hj
   obtain ⟨pv', gv', g1, g2⟩ := d4 j g _ hg hz
   have eD : (zg0 y).take (j + 1) = (zg0 y).take j ++ [((y.1, y.2[j].1), y.2[j])] := by
    have : (zg0 y)[j]? = some ((y.1, y.2[j].1), y.2[j]) := by unfold zg0; rw [List.getElem?_map, hz]; rfl
    rw [List.take_add_one, this]; rfl
   rw [eD, ← List.append_assoc]
   generalize y.2[j] = z at g1 g2
   refine ⟨g, _, rfl, SqT.of (fy _ _ List.not_mem_nil g1), rfl, _, _, rfl, _, _, rfl, _, _, rfl, _, _, rfl, rfl, ?_⟩
   refine ⟨_, rfl, .inl ⟨rfl, _, SqL.of hfy⟩, _, rfl, _, rfl, s2, fun pa hpa => ⟨_, rfl, s2, fun pb hpb => ?_⟩⟩
   have tn := (Tup.new (o := .tup [V.str y.1, V.str z.1]) hpa).trans (Tup.new (o := .tup [.ref pa, .ref z.2.1]) hpb)
   have f2 : FrS [] Hy (upd (upd Hy pa (.tup [V.str y.1, V.str z.1])) pb (.tup [.ref pa, .ref z.2.1])) := (FrS.new hpa).trans (FrS.new hpb)
   have hf2 := f2 _ _ List.not_mem_nil hfy
   have tl : Tup _ (upd (upd (upd Hy pa (.tup [V.str y.1, V.str z.1])) pb (.tup [.ref pa, .ref z.2.1])) fl (.lst ((qs ++ [pb]).map V.ref))) := Tup.lst hf2
   refine ⟨fl, _, _, rfl, rfl, hf2, zc2 (by rw [lqm]; omega), ?_⟩
   rw [show qs.map V.ref ++ [V.ref pb] = (qs ++ [pb]).map V.ref by rw [List.map_append]; rfl]
   exact ⟨_, _, _, _, qs ++ [pb], rfl, (fy.trans f2).put hflH, zb1, (ha.bkeep (tn.trans tl)).snoc ⟨pa, tl _ _ zb1, .inl (((Tup.new hpb).trans tl) _ _ zb1)⟩, by rw [List.length_append, List.length_singleton]; omega⟩
  ·rintro σ Hy ⟨_, _, _, _, qs, rfl, fy, hfy, ha, hc⟩
   have el : (zg0 y).take (ds.map V.ref).length = zg0 y := List.take_of_length_le (by unfold zg0; rw [lqm, lqm]; omega)
   rw [el] at ha
   rw [lqm] at hc
   exact ⟨_, _, _, _, _, _, _, qs, rfl, fy, hfy, ha, by omega⟩
 ·rintro σ Hx ⟨_, _, _, _, _, _, _, qs, rfl, fr, hfx, ha, hc⟩
  rw [lqm, hlen] at ha hc
  rw [List.take_of_length_le (Nat.le_refl _)] at ha
  refine ⟨_, rfl, fl, _, rfl, .inl ⟨SqL.of hfx, fun b hb => ?_⟩⟩
  exact q b qs _ (fr.trans (FrS.new hb)) zb1 (ha.bkeep (Tup.new hb)) (by omega)
end
end Gn
end
section
namespace Gn
open PySem L2
abbrev Lz := Addr × List Addr × List Addr
inductive LotIs (H : Hp) (n : Nat) (z : Lz) : Prop
 | mk (n' : Nat) (hn : n = n' + 1) (h1 : H z.1 = some (.tup (z.2.1.map V.ref))) (h2 : Fl H n' z.2.1 z.2.2) : LotIs H n z
theorem LotIs.keep {H H' : Hp} {n : Nat} {z : Lz} (h : LotIs H n z) (f : Tup H H') : LotIs H' n z := by
 obtain ⟨n', hn, h1, h2⟩ := h
 exact ⟨n', hn, f _ _ h1, h2.keep f⟩
inductive HdIs (H : Hp) (n : Nat) (a : Addr) (rs fs : List Addr) : Prop
 | mk (w : Str) (rest : List V) (ls : List Lz) (fs' : List Addr) (h1 : H a = some (.tup (.str w :: rest))) (h2 : zj5 w rest = ls.map fun z => V.ref z.1) (h3 : ∀ z ∈ ls, LotIs H n z) (h4 : fs = a :: (ls.flatMap (·.2.2) ++ fs')) (h5 : Fl H n rs fs') (h6 : ls.length <= 2) : HdIs H n a rs fs
theorem Fl.hd {H : Hp} {n : Nat} {a : Addr} {rs fs : List Addr} (h : Fl H n (a :: rs) fs) : HdIs H n a rs fs := by
 have nc : ¬ (("call" : Str) = "either" ∨ ("call" : Str) = "again") := by decide +kernel
 cases h with
 | one h t =>
  rcases h with ⟨w, rest, h, n1, n2, n3⟩ | ⟨x, y, k, d, g, ss, h, _, _⟩
  ·exact ⟨w, rest, [], _, h, by unfold zj5; rw [if_neg (fun z => z.elim n2 n3)]; rfl, (fun z h => by cases h), rfl, t, Nat.zero_le _⟩
  ·exact ⟨"call", _, [], _, h, by unfold zj5; rw [if_neg nc]; rfl, (fun z h => by cases h), rfl, t, Nat.zero_le _⟩
 | @again n a l rs1 fs1 rs fs h hl s t =>
  refine ⟨"again", _, [(l, rs1, fs1)], _, h, by unfold zj5; rw [if_pos (.inr rfl)]; rfl, fun z hz => ?_, by simp, t, by simp⟩
  have e : z = (l, rs1, fs1) := by simpa using hz
  subst e
  exact ⟨n, rfl, hl, s⟩
 | @either n a l1 l2 rs1 fs1 rs2 fs2 rs fs h h1 h2 s1 s2 t =>
  refine ⟨"either", _, [(l1, rs1, fs1), (l2, rs2, fs2)], _, h, by unfold zj5; rw [if_pos (.inl rfl)]; rfl, fun z hz => ?_, by simp, t, by simp⟩
  have e : z = (l1, rs1, fs1) ∨ z = (l2, rs2, fs2) := by simpa using hz
  rcases e with rfl | rfl
  ·exact ⟨n, rfl, h1, s1⟩
  ·exact ⟨n, rfl, h2, s2⟩
inductive En (H : Hp) (bd : Addr) : Nat -> List Addr -> List Addr -> Prop
 | nil {k : Nat} : En H bd k [] []
 | cons {k : Nat} {e a : Addr} {es as : List Addr} (h : H e = some (.tup [.int (k : Int), .ref bd, .ref a])) (t : En H bd (k + 1) es as) : En H bd k (e :: es) (a :: as)
theorem En.keep {H H' : Hp} {bd : Addr} {k : Nat} {es as : List Addr} (h : En H bd k es as) (f : Tup H H') : En H' bd k es as := by
 induction h with
 | nil => exact .nil
 | cons h _ ih => exact .cons (f _ _ h) ih
theorem En.app {H : Hp} {bd : Addr} {k : Nat} {es as es' as' : List Addr} (h : En H bd k es as) (g : En H bd (k + es.length) es' as') : En H bd k (es ++ es') (as ++ as') := by
 induction h with
 | nil => exact g
 | cons h _ ih => exact .cons h (ih (by rw [List.length_cons] at g; rwa [Nat.add_assoc, Nat.add_comm 1]))
theorem En.len {H : Hp} {bd : Addr} {k : Nat} {es as : List Addr} (h : En H bd k es as) : es.length = as.length := by
 induction h with
 | nil => rfl
 | cons _ _ ih => exact congrArg (· + 1) ih
theorem FrS.tup1 {H H' : Hp} {a : Addr} {ys : List V} (f : FrS [a] H H') (h : H a = some (.lst ys)) : Tup H H' := FrS.tup f fun b hb xs e => by
 have : b = a := by simpa using hb
 subst this
 rw [h] at e; cases e
inductive SpLay (n : Nat) (vs : List V) (H : Hp) (Q : VK) : Prop
 | mk (bd l fd : Addr) (rs fs es : List Addr) (h1 : vs = [.ref bd, .ref l, .ref fd]) (h2 : H l = some (.tup (rs.map V.ref))) (h3 : Fl H n rs fs) (h4 : H fd = some (.lst (es.map V.ref))) (h5 : es.length + fs.length <= 1000000)
  (h6 : ∀ (x : V) (ns : List Addr) (H' : Hp), FrS [fd] H H' -> H' fd = some (.lst ((es ++ ns).map V.ref)) -> En H' bd es.length ns fs -> Q x H') : SpLay n vs H Q
def xm9 (n : Nat) : Sp := fun vs H Q _ => SpLay n vs H Q
def xc1 : Nat -> Sp
 | 0 => fun _ _ _ _ => False
 | n + 1 => xm9 n
inductive LayI (n : Nat) (H : Hp) (bd l fd tl : Addr) (rs fs es : List Addr) (i : Nat) (σ : St) (Hx : Hp) : Prop
 | mk (a b : Option V) (ts : List V) (ns f1 f2 : List Addr) (hσ : σ = [some (.ref bd), some (.ref l), some (.ref fd), some (.ref tl), a, b]) (fr : FrS [fd] H Hx) (hf : Hx fd = some (.lst ((es ++ ns).map V.ref))) (ht : Hx tl = some (.lst ts)) (hn : ts.length <= i) (he : fs = f1 ++ f2) (hl : Fl Hx n (rs.drop i) f2) (hE : En Hx bd es.length ns f1) : LayI n H bd l fd tl rs fs es i σ Hx
inductive LayJ (H1 H2 : Hp) (bd fd Dl : Addr) (es : List Addr) (ls : List Lz) (j : Nat) (σ : St) (Hx : Hp) : Prop
 | mk (a : Option V) (zs : List V) (ns : List Addr) (hσ : σ = [a, some (.ref bd), some (.ref fd)]) (fr : FrS [fd] H1 Hx) (tp : Tup H2 Hx) (hf : Hx fd = some (.lst ((es ++ ns).map V.ref))) (hD : Hx Dl = some (.lst zs)) (hn : zs.length <= j) (hE : En Hx bd es.length ns ((ls.take j).flatMap (·.2.2))) : LayJ H1 H2 bd fd Dl es ls j σ Hx
section
variable {P : Program} {w : World} {K : PySem.W.Frag} {mg : Str -> Option Value} {base : Heap} {f : Addr} {fd : FuncData}
abbrev pLay : List Str := ["body", "rows", "found"]
theorem xh1 : zd3 ["body", "rows", "found", "told", "row", "number"] pLay (zb7 sLay) := ⟨rfl, rfl, rfl, by decide +kernel, rfl, by decide +kernel, by decide +kernel⟩
set_option maxHeartbeats 4000000 in
theorem xt6 {k n : Nat} (F : Fun K "lay" "lay" sLay f fd) (WI : Cal P w K mg base k "rows_within" ["row"] yd2) (LA : Cal P w K mg base k "lay" pLay (xc1 n)) (ml : mg "len" = none) (mtu : mg "tuple" = none) : FnOk P w K mg base CX0 (k + 1) f fd pLay (xm9 n) := by
 obtain ⟨g, gd, GW, bW, kW, mW⟩ := WI.ex
 obtain ⟨g2, gd2, GL, bL, kL, mL⟩ := LA.ex
 refine F.ok xh1 (fun vs H Q E h => ?_) (fun cdv A outer s H vs Q E hr h => ?_)
 ·obtain ⟨bd, l, fl, rs, fs, es, rfl, _⟩ := h
  rfl
 obtain ⟨bd, l, fl, rs, fs, es, rfl, hl, hF, hfl, hb, q⟩ := h
 have nd3 : (["inner", "body", "found"] : List Str).Nodup := by decide +kernel
 refine ⟨_, zb3 (zc3 (i := 3) xh1.nd rfl (Or.inl rfl) (zd7 zb2))
  (zb3 (zg6 PassesOwn.never rfl (zj9 (pv 1)) (zc0 (i := 4) xh1.nd rfl (Or.inl rfl))
   (zb3 (zc3 (i := 5) xh1.nd rfl (Or.inl rfl) (zd6 zf4 rfl ml PySem.boot_len (zb0 (pv 2) zb2)))
   (zb3 (zg2 (zk6 PySem.F.plainAttrs_list PySem.F.slot_list_append PySem.F.type_list_append zf0 (pv 2) (zb0 (zf6 (zb0 (pv 5) (zb0 (pv 0) (zb0 (pv 4) zb2)))) zb2)))
   (zb9 (zg2 (zk6 PySem.F.plainAttrs_list PySem.F.slot_list_append PySem.F.type_list_append zf0 (pv 3) (zb0 (zf6 (zb0 (pv 5) (zb0 (pv 4) (zb0
    (zd1 zc8 rfl mtu (by decide +kernel) (zb0 (zh8 (N' := ["inner", "body", "found"]) (src := [none, some 0, some 2]) rfl ⟨rfl, by decide +kernel, by decide +kernel, rfl, rfl, rfl⟩ (zj9 (zb8 GW hr rfl mW kW bW .nil zc6 (zb0 (pv 4) zb2)))
     (g := zf8 0) (fun _ _ _ _ => zc0 (i := 0) nd3 rfl (Or.inl rfl) (Or.inr rfl)) (fun _ _ _ _ => zh3)
     (te := zm2 (xc1 n) [] E0 (zc4 (tVar 1) (zc4 (tVar 0) (zc4 (tVar 2) tNil))))
     (fun _ _ _ _ => zb8 GL hr rfl mL kL bL .nil zc6 (zb0 (pv 1) (zb0 (pv 0) (zb0 (pv 2) zb2))))) zb2)) zb2)))) zb2)))))))
  (zb9 (zd4 (zd1 zc8 rfl mtu (by decide +kernel) (zb0 (pv 3) zb2))))), ?_⟩
 first | dsimp only [cxOf, Cx.nox] | skip
 have s3 : 3 <= sizeLine := Nat.le_of_lt (zc2 (by decide))
 refine ⟨Nat.zero_le _, fun tl htl => ?_⟩
 have tl0 : Tup H (upd H tl (.lst [])) := Tup.new htl
 have hft : fl ≠ tl := zb4 hfl htl
 refine ⟨_, rfl, l, rfl, ⟨_, SqT.of (tl0 _ _ hl)⟩, ?_⟩
 refine zm0 (xs := rs.map V.ref) (LayI n H bd l fl tl rs fs es) ⟨_, _, [], [], [], fs, rfl, FrS.new htl, by rw [zb5 hft, List.append_nil]; exact hfl, zb1, Nat.le_refl _, rfl, hF.keep tl0, .nil⟩ ?_ ?_ ?_
 ·rintro i σ Hx hi ⟨_, _, _, _, _, _, _, fr, _⟩
  exact SqT.of (fr.tup1 hfl _ _ hl)
 ·rintro i x σ Hx hx ⟨a0, b0, ts, ns, f1, f2, rfl, fr, hfx, htx, hts, rfl, hFx, hE⟩
  rw [List.getElem?_map, Option.map_eq_some_iff] at hx
  obtain ⟨a, ha, rfl⟩ := hx
  obtain ⟨hi, rfl⟩ := List.getElem?_eq_some_iff.mp ha
  rw [List.drop_eq_getElem_cons hi] at hFx
  obtain ⟨w, rest, ls, fs', h1, h2, h3, rfl, h5, h6⟩ := hFx.hd
  generalize rs[i] = a at h1
  have hEl := hE.len
  have hrl := hF.len
  rw [List.length_append, List.length_cons, List.length_append] at hb hrl
  have hftx : fl ≠ tl := hft
  refine ⟨_, rfl, fl, _, rfl, .inl (SqL.of hfx), ?_⟩
  refine ⟨_, rfl, .inl ⟨rfl, _, SqL.of hfx⟩, _, rfl, _, rfl, _, rfl, s3, fun e0 he0 => ?_⟩
  have hf1 := (FrS.new (S := []) (o := .tup [.int (((es ++ ns).map V.ref).length : Nat), .ref bd, .ref a]) he0) _ _ List.not_mem_nil hfx
  refine ⟨fl, _, _, rfl, rfl, hf1, zp9 (by rw [lqm, List.length_append]; omega), ?_⟩
  have hnum : (((es ++ ns).map V.ref).length : Nat) = es.length + ns.length := by rw [lqm, List.length_append]
  rw [hnum]
  have elst : (es ++ ns).map V.ref ++ [V.ref e0] = ((es ++ (ns ++ [e0])).map V.ref) := by rw [← List.append_assoc, List.map_append (l₂ := [e0])]; rfl
  rw [elst]
  have hf1' : upd Hx e0 (.tup [.int ((es.length + ns.length : Nat) : Int), .ref bd, .ref a]) fl = some (.lst ((es ++ ns).map V.ref)) := by rw [zb5 (zb4 hfx he0)]; exact hfx
  have tp1 : Tup Hx (upd (upd Hx e0 (.tup [.int ((es.length + ns.length : Nat) : Int), .ref bd, .ref a])) fl (.lst ((es ++ (ns ++ [e0])).map V.ref))) := (Tup.new he0).trans (Tup.lst hf1')
  have he1 : upd (upd Hx e0 (.tup [.int ((es.length + ns.length : Nat) : Int), .ref bd, .ref a])) fl (.lst ((es ++ (ns ++ [e0])).map V.ref)) e0 = some (.tup [.int ((es.length + ns.length : Nat) : Int), .ref bd, .ref a]) := (Tup.lst hf1') _ _ zb1
  have fr1 : FrS [fl] H (upd (upd Hx e0 (.tup [.int ((es.length + ns.length : Nat) : Int), .ref bd, .ref a])) fl (.lst ((es ++ (ns ++ [e0])).map V.ref))) := (fr.trans (FrS.new he0)).put' (.head _)
  have ht1 : upd (upd Hx e0 (.tup [.int ((es.length + ns.length : Nat) : Int), .ref bd, .ref a])) fl (.lst ((es ++ (ns ++ [e0])).map V.ref)) tl = some (.lst ts) := by rw [zb5 (Ne.symm hft), zb5 (zb4 htx he0)]; exact htx
  have hfH : upd (upd Hx e0 (.tup [.int ((es.length + ns.length : Nat) : Int), .ref bd, .ref a])) fl (.lst ((es ++ (ns ++ [e0])).map V.ref)) fl = some (.lst ((es ++ (ns ++ [e0])).map V.ref)) := zb1
  have hE1 : En _ bd es.length (ns ++ [e0]) (f1 ++ [a]) := (hE.keep tp1).app (.cons he1 .nil)
  have hF1 := h5.keep tp1
  have h1' := tp1 _ _ h1
  have h3' : ∀ z ∈ ls, LotIs (upd (upd Hx e0 (.tup [.int ((es.length + ns.length : Nat) : Int), .ref bd, .ref a])) fl (.lst ((es ++ (ns ++ [e0])).map V.ref))) n z := fun z hz => (h3 z hz).keep tp1
  generalize upd (upd Hx e0 (.tup [.int ((es.length + ns.length : Nat) : Int), .ref bd, .ref a])) fl (.lst ((es ++ (ns ++ [e0])).map V.ref)) = H1 at fr1 ht1 hfH hE1 hF1 h1' h3'
  refine ⟨_, rfl, .inl ⟨rfl, _, SqL.of ht1⟩, _, rfl, _, rfl, _, rfl, a, w, rest, rfl, h1', fun pw hpw => ⟨pw, rfl, ⟨_, SqT.of zb1⟩, fun Dl hDl => ?_⟩⟩
  rw [h2]
  have f2 : FrS [] H1 (upd (upd H1 pw (.tup (zj5 w rest))) Dl (.lst [])) := (FrS.new hpw).trans (FrS.new hDl)
  have hDH1 : H1 Dl = none := yg8 (FrS.new hpw) hDl
  rw [h2] at f2 hDl
  have hDf : fl ≠ Dl := zb4 hfH hDH1
  have hw2 : upd (upd H1 pw (.tup (ls.map fun z => V.ref z.1))) Dl (.lst []) pw = some (.tup (ls.map fun z => V.ref z.1)) := by rw [zb5 (fun z => by rw [← z, zb1] at hDl; cases hDl)]; exact zb1
  have hf2 := f2 _ _ List.not_mem_nil hfH
  have ht2 := f2 _ _ List.not_mem_nil ht1
  have tp2 := Tup.of0 f2
  have hD2 : upd (upd H1 pw (.tup (ls.map fun z => V.ref z.1))) Dl (.lst []) Dl = some (.lst []) := zb1
  generalize upd (upd H1 pw (.tup (ls.map fun z => V.ref z.1))) Dl (.lst []) = H2 at f2 hw2 hf2 ht2 tp2 hD2
  refine zm3 (xs := ls.map fun z => V.ref z.1) (LayJ H1 H2 bd fl Dl (es ++ (ns ++ [e0])) ls) ⟨_, [], [], rfl, f2.mono (fun _ h => absurd h List.not_mem_nil), (fun _ _ h => h), by rw [List.append_nil]; exact hf2, hD2, Nat.le_refl _, .nil⟩ ?_ ?_ ?_
  ·rintro j σ Hy hj ⟨_, _, _, _, _, ty, _⟩
   exact SqT.of (ty _ _ hw2)
  ·rintro j x σ Hy hx ⟨x0, zs, nj, rfl, fy, ty, hfy, hDy, hzl, hEj⟩
   rw [List.getElem?_map, Option.map_eq_some_iff] at hx
   obtain ⟨z, hz, rfl⟩ := hx
   have tpy : Tup H1 Hy := tp2.trans ty
   obtain ⟨n', rfl, z1, z2⟩ := (h3' z (List.mem_of_getElem? hz)).keep tpy
   have hjl : j < ls.length := (List.getElem?_eq_some_iff.mp hz).1
   have hsum : ((ls.take j).flatMap (·.2.2)).length + z.2.2.length <= (ls.flatMap (·.2.2)).length := by
    have e : ls = ls.take j ++ (z :: ls.drop (j + 1)) := by
     rw [← (List.getElem?_eq_some_iff.mp hz).2, ← List.drop_eq_getElem_cons hjl, List.take_append_drop]
    conv => rhs; rw [e]
    rw [List.flatMap_append, List.flatMap_cons, List.length_append, List.length_append]
    omega
   have hEjl := hEj.len
   refine ⟨_, rfl, _, rfl, _, rfl, bd, z.1, fl, z.2.1, z.2.2, es ++ (ns ++ [e0]) ++ nj, rfl, z1, z2, hfy, by rw [List.length_append, List.length_append, List.length_append, List.length_singleton]; omega, fun x nx Hz fz hfz hEz => ?_⟩
   have hDz := fz _ _ (by simpa using Ne.symm hDf) hDy
   have tpz := fz.tup1 hfy
   have tpl : Tup Hz (upd Hz Dl (.lst (zs ++ [x]))) := Tup.lst hDz
   refine ⟨_, hDz, zc2 (by omega), _, _, nj ++ nx, rfl, (fy.trans fz).put hDH1, (ty.trans tpz).trans tpl, by rw [zb5 hDf, ← List.append_assoc]; exact hfz, zb1, by rw [List.length_append, List.length_singleton]; omega, ?_⟩
   ·have e : (ls.take (j + 1)).flatMap (·.2.2) = (ls.take j).flatMap (·.2.2) ++ z.2.2 := by
     rw [List.take_add_one, hz, List.flatMap_append]; simp
    rw [e]
    refine (hEj.keep (tpz.trans tpl)).app ?_
    rw [List.length_append] at hEz
    exact hEz.keep tpl
  ·rintro σ Hy ⟨x0, zs, nj, rfl, fy, ty, hfy, hDy, hzl, hEj⟩
   rw [lqm] at hzl hEj
   rw [List.take_of_length_le (Nat.le_refl _)] at hEj
   refine ⟨Dl, _, rfl, .inl ⟨SqL.of hDy, fun pt hpt => ⟨s3, fun pu hpu => ?_⟩⟩⟩
   have hty := fy _ _ (by simpa using Ne.symm hft) ht1
   have fn : FrS [] Hy (upd (upd Hy pt (.tup zs)) pu (.tup [.int ((es.length + ns.length : Nat) : Int), .ref a, .ref pt])) := (FrS.new hpt).trans (FrS.new hpu)
   have ht3 := fn _ _ List.not_mem_nil hty
   have hf3 := fn _ _ List.not_mem_nil hfy
   have tl3 : Tup _ (upd (upd (upd Hy pt (.tup zs)) pu (.tup [.int ((es.length + ns.length : Nat) : Int), .ref a, .ref pt])) tl (.lst (ts ++ [.ref pu]))) := Tup.lst ht3
   have tpa := (tp2.trans ty).trans ((Tup.of0 fn).trans tl3)
   refine ⟨tl, _, _, rfl, rfl, ht3, zp9 (by omega), ?_⟩
   refine ⟨_, _, _, ns ++ [e0] ++ nj, f1 ++ (a :: ls.flatMap (·.2.2)), fs', rfl, ((fr1.trans fy).trans (fn.mono (fun _ h => absurd h List.not_mem_nil))).put htl, by rw [zb5 hft, ← List.append_assoc]; exact hf3, zb1, by rw [List.length_append, List.length_singleton]; omega, by simp, hF1.keep tpa, ?_⟩
   have e1 : f1 ++ (a :: ls.flatMap (·.2.2)) = f1 ++ [a] ++ ls.flatMap (·.2.2) := by simp
   rw [e1]
   refine (hE1.keep tpa).app ?_
   rw [List.length_append] at hEj
   exact hEj.keep ((Tup.of0 fn).trans tl3)
 ·rintro σ Hx ⟨a0, b0, ts, ns, f1, f2, rfl, fr, hfx, htx, hts, rfl, hFx, hE⟩
  rw [lqm, List.drop_of_length_le (Nat.le_refl _)] at hFx
  cases hFx
  rw [List.append_nil] at q
  refine ⟨_, rfl, tl, _, rfl, .inl ⟨SqL.of htx, fun b hb' => ?_⟩⟩
  exact q _ ns _ (fr.trans (FrS.new hb')) (by rw [zb5 (zb4 hfx hb')]; exact hfx) (hE.keep (Tup.new hb'))
end
end Gn
end
section
namespace Gn
open PySem L2
abbrev Fz := (Str × Str) × Addr
def zf9 (L : List Bz) : List Fz := L.flatMap fun z => z.2.2.2.2.map fun a => (z.1, a)
inductive CaIs (K : PySem.W.Frag) (H : Hp) (e : Addr) (q : Fz × Nat) : Prop
 | mk (bd : Addr) (h : H e = some (.tup [.int (q.2 : Int), .ref bd, .ref q.1.2])) (hb : BT K H bd q.1.1) : CaIs K H e q
theorem CaIs.keep {K : PySem.W.Frag} {H H' : Hp} {e : Addr} {q : Fz × Nat} (h : CaIs K H e q) (f : Tup H H') : CaIs K H' e q := by
 obtain ⟨bd, h, hb⟩ := h
 exact ⟨bd, f _ _ h, hb.keep f⟩
theorem _root_.L2.A2.ckeep {K : PySem.W.Frag} {H H' : Hp} {qs : List Addr} {L : List (Fz × Nat)} (h : A2 (CaIs K H) qs L) (f : Tup H H') : A2 (CaIs K H') qs L := h.imp fun _ _ g => g.keep f
theorem En.ca {K : PySem.W.Frag} {H : Hp} {bd : Addr} {n : Str × Str} (hb : BT K H bd n) {k : Nat} {es as : List Addr} (h : En H bd k es as) : A2 (CaIs K H) es ((as.map fun a => (n, a)).zipIdx k) := by
 induction h with
 | nil => exact .nil
 | cons h _ ih => exact .cons ⟨bd, h, hb⟩ ih
theorem ProgIs.rows {H : Hp} {p : Addr} {ks : List (Str × List Dz)} {m0 : Dz} (h : ProgIs H p ks m0) : ∀ z ∈ zf1 ks m0, RowsIs H z.2 := by
 obtain ⟨kt, us, lt, _, _, h3, h4, h5, _⟩ := h
 intro z hz
 unfold zf1 at hz
 rcases List.mem_cons.mp hz with rfl | hz
 ·exact h5
 ·obtain ⟨y, hy, hz⟩ := List.mem_flatMap.mp hz
  unfold zg0 at hz
  obtain ⟨d, hd, rfl⟩ := List.mem_map.mp hz
  obtain ⟨j, hj⟩ := List.mem_iff_getElem?.mp hy
  have hjl : j < us.length := by rw [h3]; exact (List.getElem?_eq_some_iff.mp hj).1
  obtain ⟨e, dt, fs, _, _, g3, g4, _⟩ := h4 j us[j] y (List.getElem?_eq_getElem hjl) hj
  obtain ⟨i, hi⟩ := List.mem_iff_getElem?.mp hd
  have hil : i < fs.length := by rw [g3]; exact (List.getElem?_eq_some_iff.mp hi).1
  obtain ⟨_, _, _, r⟩ := g4 i fs[i] d (List.getElem?_eq_getElem hil) hi
  exact r
theorem zj2 {H : Hp} : ∀ {L : List Bz}, (∀ z ∈ L, RowsIs H z.2) -> (zf9 L).length <= 80 * L.length
 | [], _ => Nat.zero_le _
 | z :: L, h => by
  have h1 := zj2 (L := L) fun y hy => h y (.tail _ hy)
  obtain ⟨_, _, h4⟩ := h z (.head _)
  unfold zf9 at h1 ⊢
  rw [List.flatMap_cons, List.length_append, lqm, List.length_cons]
  omega
theorem zp5 {H : Hp} {L : List Bz} (h : ∀ z ∈ L, RowsIs H z.2) : ∀ q ∈ zf9 L, yp7 H q.2 := by
 intro q hq
 unfold zf9 at hq
 obtain ⟨z, hz, hq⟩ := List.mem_flatMap.mp hq
 obtain ⟨a, ha, rfl⟩ := List.mem_map.mp hq
 obtain ⟨_, h3, _⟩ := h z hz
 exact h3.is a ha
theorem FrS.own {H Hx Hy : Hp} {a : Addr} (f : FrS [] H Hx) (g : FrS [a] Hx Hy) (h : H a = none) : FrS [] H Hy := fun b o _ e => g b o (by simpa using zb4 e h) (f b o List.not_mem_nil e)
inductive xr3 (K : PySem.W.Frag) (vs : List V) (H : Hp) (Q : VK) : Prop
 | mk (p : Addr) (ks : List (Str × List Dz)) (m0 : Dz) (h1 : vs = [.ref p]) (h2 : ProgIs H p ks m0) (h3 : ∀ (b : Addr) (ns : List Addr) (H' : Hp), FrS [] H H' -> H' b = some (.tup (ns.map V.ref)) -> A2 (CaIs K H') ns ((zf9 (zf1 ks m0)).zipIdx 0) -> Q (.ref b) H') : xr3 K vs H Q
def xh2 (K : PySem.W.Frag) : Sp := fun vs H Q _ => xr3 K vs H Q
inductive NumI (K : PySem.W.Frag) (H H1 : Hp) (p fd : Addr) (L : List Bz) (i : Nat) (σ : St) (Hx : Hp) : Prop
 | mk (a b : Option V) (ns : List Addr) (hσ : σ = [some (.ref p), some (.ref fd), a, b]) (fr : FrS [] H Hx) (tp : Tup H1 Hx) (hf : Hx fd = some (.lst (ns.map V.ref))) (ha : A2 (CaIs K Hx) ns ((zf9 (L.take i)).zipIdx 0)) : NumI K H H1 p fd L i σ Hx
section
variable {P : Program} {w : World} {K : PySem.W.Frag} {mg : Str -> Option Value} {base : Heap} {f : Addr} {fd : FuncData}
theorem yr5 : zd3 ["program", "found", "body", "rows"] ["program"] (zb7 yw3) := ⟨rfl, rfl, rfl, by decide +kernel, rfl, by decide +kernel, by decide +kernel⟩
theorem xx3 {k : Nat} (F : Fun K "numbered" "numbered" yw3 f fd) (BO : Cal P w K mg base k "bodies" ["program"] (zv6 K)) (LA : Cal P w K mg base k "lay" pLay (xm9 4)) (mtu : mg "tuple" = none) : FnOk P w K mg base CX0 (k + 1) f fd ["program"] (xh2 K) := by
 obtain ⟨g, gd, GB, bB, kB, mB⟩ := BO.ex
 obtain ⟨g2, gd2, GL, bL, kL, mL⟩ := LA.ex
 refine F.ok yr5 (fun vs H Q E h => ?_) (fun cdv A outer s H vs Q E hr h => ?_)
 ·obtain ⟨p, ks, m0, rfl, _⟩ := h
  rfl
 obtain ⟨p, ks, m0, rfl, hP, q⟩ := h
 refine ⟨_, zb3 (zc3 (i := 1) yr5.nd rfl (Or.inl rfl) (zd7 zb2))
  (zb3 (zg6 PassesOwn.never rfl (zj9 (zb8 GB hr rfl mB kB bB .nil zc6 (zb0 (pv 0) zb2))) (zh4 (n := 2) rfl (zc1 (zc0 (i := 2) yr5.nd rfl (Or.inl rfl)) (zc1 (zc0 (i := 3) yr5.nd rfl (Or.inl rfl)) zg4)))
   (zb9 (zg2 (zb8 GL hr rfl mL kL bL .nil zc6 (zb0 (pv 2) (zb0 (pv 3) (zb0 (pv 1) zb2)))))))
  (zb9 (zd4 (zd1 zc8 rfl mtu (by decide +kernel) (zb0 (pv 1) zb2))))), ?_⟩
 first | dsimp only [cxOf, Cx.nox] | skip
 refine ⟨Nat.zero_le _, fun fl hfl => ?_⟩
 have f0 : FrS [] H (upd H fl (.lst [])) := FrS.new hfl
 refine ⟨_, rfl, p, ks, m0, rfl, hP.keep (Tup.new hfl), fun b qs H1 f1 hb hB hql => ⟨b, rfl, ⟨_, SqT.of hb⟩, ?_⟩⟩
 have hf1 := f1 _ _ List.not_mem_nil zb1
 have fr1 := f0.trans f1
 have hR : ∀ z ∈ zf1 ks m0, RowsIs H1 z.2 := (hP.keep (Tup.of0 fr1)).rows
 have hBl := hB.len
 generalize zf1 ks m0 = L at hB hR hBl q
 have hlen := zj2 hR
 refine zm0 (xs := qs.map V.ref) (NumI K H H1 p fl L) ⟨_, _, [], rfl, fr1, (fun _ _ h => h), hf1, .nil⟩ ?_ ?_ ?_
 ·rintro i σ Hx hi ⟨_, _, _, _, _, tp, _⟩
  exact SqT.of (tp _ _ hb)
 ·rintro i x σ Hx hx ⟨a0, b0, ns, rfl, fr, tp, hfx, ha⟩
  rw [List.getElem?_map, Option.map_eq_some_iff] at hx
  obtain ⟨u, hu, rfl⟩ := hx
  obtain ⟨z, hz, bd, u1, u2⟩ := hB.get hu
  obtain ⟨r2, r3, r4⟩ := (hR z (List.mem_of_getElem? hz)).keep tp
  have eF : zf9 (L.take (i + 1)) = zf9 (L.take i) ++ z.2.2.2.2.map fun a => (z.1, a) := by
   unfold zf9
   rw [List.take_add_one, hz, List.flatMap_append]; simp
  have hal := ha.len
  rw [List.length_zipIdx] at hal
  have hsum : (zf9 (L.take i)).length <= 80 * L.length := by
   have := zj2 (L := L.take i) fun y hy => hR y (List.mem_of_mem_take hy)
   have h2 : (L.take i).length <= L.length := by rw [List.length_take]; omega
   omega
  refine ⟨u, _, rfl, SqT.of (tp _ _ u1), rfl, _, _, rfl, _, _, rfl, rfl, ?_⟩
  refine ⟨_, rfl, _, rfl, _, rfl, bd, z.2.2.1, fl, z.2.2.2.1, z.2.2.2.2, ns, rfl, r2, r3, hfx, by omega, fun x nx Hy fy hfy hEy => ?_⟩
  have ty := fy.tup1 hfx
  refine ⟨_, _, ns ++ nx, rfl, fr.own fy hfl, tp.trans ty, hfy, ?_⟩
  rw [eF, List.zipIdx_append]
  refine (ha.ckeep ty).app ?_
  have := hEy.ca (u2.keep (tp.trans ty))
  rwa [hal, ← Nat.zero_add (zf9 (L.take i)).length] at this
 ·rintro σ Hx ⟨a0, b0, ns, rfl, fr, tp, hfx, ha⟩
  rw [lqm, hBl, List.take_of_length_le (Nat.le_refl _)] at ha
  refine ⟨_, rfl, fl, _, rfl, .inl ⟨SqL.of hfx, fun c hc => ?_⟩⟩
  exact q c ns _ (fr.trans (FrS.new hc)) zb1 (ha.ckeep (Tup.new hc))
end
def isC (H : Hp) (a : Addr) : Bool := match H a with
 | some (.tup (.str w :: _)) => decide (w = "call")
 | _ => false
theorem yj0 {H : Hp} {a : Addr} {w : Str} {rest : List V} (h : H a = some (.tup (.str w :: rest))) : isC H a = decide (w = "call") := by
 unfold isC
 rw [h]
def sel (H : Hp) (q : Fz × Nat) : Bool := isC H q.1.2
inductive xd2 (K : PySem.W.Frag) (vs : List V) (H : Hp) (Q : VK) : Prop
 | mk (p : Addr) (ks : List (Str × List Dz)) (m0 : Dz) (h1 : vs = [.ref p]) (h2 : ProgIs H p ks m0) (h3 : ∀ (b : Addr) (cs : List Addr) (H' : Hp), FrS [] H H' -> H' b = some (.tup (cs.map V.ref)) -> A2 (CaIs K H') cs (((zf9 (zf1 ks m0)).zipIdx 0).filter (sel H)) -> Q (.ref b) H') : xd2 K vs H Q
def ym6 (K : PySem.W.Frag) : Sp := fun vs H Q _ => xd2 K vs H Q
inductive CalI (K : PySem.W.Frag) (H H1 : Hp) (Dl : Addr) (QL : List (Fz × Nat)) (i : Nat) (σ : St) (Hx : Hp) : Prop
 | mk (a : Option V) (cs : List Addr) (hσ : σ = [a]) (fr : FrS [] H1 Hx) (hD : Hx Dl = some (.lst (cs.map V.ref))) (ha : A2 (CaIs K Hx) cs ((QL.take i).filter (sel H))) : CalI K H H1 Dl QL i σ Hx
section
variable {P : Program} {w : World} {K : PySem.W.Frag} {mg : Str -> Option Value} {base : Heap} {f : Addr} {fd : FuncData}
theorem xw6 : zd3 ["program"] ["program"] (zb7 yb1) := ⟨rfl, rfl, rfl, by decide +kernel, rfl, by decide +kernel, by decide +kernel⟩
theorem xq9 {k : Nat} (F : Fun K "calls" "calls" yb1 f fd) (NU : Cal P w K mg base k "numbered" ["program"] (xh2 K)) (mtu : mg "tuple" = none) : FnOk P w K mg base CX0 (k + 1) f fd ["program"] (ym6 K) := by
 obtain ⟨g, gd, GN, bN, kN, mN⟩ := NU.ex
 refine F.ok xw6 (fun vs H Q E h => ?_) (fun cdv A outer s H vs Q E hr h => ?_)
 ·obtain ⟨p, ks, m0, rfl, _⟩ := h
  rfl
 obtain ⟨p, ks, m0, rfl, hP, q⟩ := h
 have nd1 : (["entry"] : List Str).Nodup := by decide +kernel
 refine ⟨_, zb9 (zd4 (zd1 zc8 rfl mtu (by decide +kernel) (zb0 (zh8 (N' := ["entry"]) (src := [none]) rfl ⟨rfl, by decide +kernel, by decide +kernel, rfl, rfl, rfl⟩ (zj9 (zb8 GN hr rfl mN kN bN .nil zc6 (zb0 (pv 0) zb2)))
   (g := zf8 0) (fun _ _ _ _ => zc0 (i := 0) nd1 rfl (Or.inl rfl) (Or.inr rfl))
   (tt := zm4 (tOp rEq (tOp (rIxT K) (tOp (rIxT K) (tVar 0) (tC (.int 2))) (tC (.int 0))) (tC (.str "call"))))
   (fun _ _ _ _ => zm5 (zc7 zp1 (zw0 (show IxR _ (rIxT K) from zs9) (zw0 (show IxR _ (rIxT K) from zs9) (pv 0) zb6 (fun _ _ => rfl)) zb6 (fun _ _ => rfl)) zd5 (zd8 _))) (fun _ _ _ _ => pv 0)) zb2))), ?_⟩
 first | dsimp only [cxOf, Cx.nox] | skip
 refine ⟨_, rfl, p, ks, m0, rfl, hP, fun b ns H1 f1 hb hA => ⟨b, rfl, ⟨_, SqT.of hb⟩, fun Dl hDl => ?_⟩⟩
 have hR : ∀ z ∈ zf1 ks m0, RowsIs H z.2 := hP.rows
 have hI := zp5 hR
 have hlen := zj2 hR
 have hql : (zf1 ks m0).length <= 1000 := by
  obtain ⟨kt, us, lt, _, _, h3, h4, _, h6⟩ := hP
  have : ∀ ks : List (Str × List Dz), (∀ y ∈ ks, y.2.length <= 80) -> (ks.flatMap zg0).length <= 80 * ks.length := by
   intro ks
   induction ks with
   | nil => intro _; exact Nat.zero_le _
   | cons y ks ih =>
    intro h
    have h1 := ih fun z hz => h z (.tail _ hz)
    have h2 := h y (.head _)
    have h3 : (zg0 y).length = y.2.length := by unfold zg0; rw [lqm]
    rw [List.flatMap_cons, List.length_append, List.length_cons]
    omega
  have h7 := this ks fun y hy => by
   obtain ⟨j, hj⟩ := List.mem_iff_getElem?.mp hy
   have hjl : j < us.length := by rw [h3]; exact (List.getElem?_eq_some_iff.mp hj).1
   obtain ⟨e, dt, fs, _, _, g3, _, g5⟩ := h4 j us[j] y (List.getElem?_eq_getElem hjl) hj
   omega
  unfold zf1
  rw [List.length_cons]
  omega
 generalize zf9 (zf1 ks m0) = Z at hA hI hlen q
 refine zm3 (xs := ns.map V.ref) (CalI K H H1 Dl (Z.zipIdx 0)) ⟨_, [], rfl, (FrS.refl).put hDl, zb1, .nil⟩ ?_ ?_ ?_
 ·rintro i σ Hx hi ⟨_, _, _, fr, _⟩
  exact SqT.of (fr _ _ List.not_mem_nil hb)
 ·rintro i x σ Hx hx ⟨a0, cs, rfl, fr, hDx, ha⟩
  rw [List.getElem?_map, Option.map_eq_some_iff] at hx
  obtain ⟨u, hu, rfl⟩ := hx
  obtain ⟨z, hz, bd, u1, u2⟩ := hA.get hu
  have hzm : z.1 ∈ Z := by
   rw [List.getElem?_zipIdx] at hz
   obtain ⟨y, hy, rfl⟩ := Option.map_eq_some_iff.mp hz
   exact List.mem_of_getElem? hy
  obtain ⟨w, rest, hw, hc⟩ := hI z.1 hzm
  have tpx : Tup H Hx := Tup.of0 (f1.trans fr)
  have es : sel H z = decide (w = "call") := yj0 hw
  have eF : ((Z.zipIdx 0).take (i + 1)).filter (sel H) = ((Z.zipIdx 0).take i).filter (sel H) ++ [z].filter (sel H) := by
   rw [List.take_add_one, hz, List.filter_append]; rfl
  have hcl : cs.length <= Z.length := by
   have h1 := ha.len
   have h2 := List.length_filter_le (sel H) ((Z.zipIdx 0).take i)
   rw [List.length_take, List.length_zipIdx] at h2
   omega
  refine ⟨_, rfl, u, _, _, _, rfl, rfl, SqT.of (fr _ _ List.not_mem_nil u1), rfl, z.1.2, _, _, .str w, rfl, rfl, SqT.of (tpx _ _ hw), yw4 _ _, rfl, _, rfl, ?_⟩
  refine ite2 (fun c => ?_) (fun c => ?_)
  ·have c' : w = "call" := V.str.inj (of_decide_eq_true c)
   refine ⟨_, rfl, _, hDx, zp9 (by rw [lqm]; omega), _, cs ++ [u], rfl, fr.put hDl, by rw [zb1, List.map_append]; rfl, ?_⟩
   rw [eF, List.filter_cons_of_pos (by rw [es]; exact decide_eq_true c'), List.filter_nil]
   have tl : Tup Hx (upd Hx Dl (.lst (cs.map V.ref ++ [V.ref u]))) := Tup.lst hDx
   exact (ha.ckeep tl).snoc (CaIs.keep ⟨bd, u1, u2⟩ ((Tup.of0 fr).trans tl))
  ·have c' : w ≠ "call" := fun z => c (decide_eq_true (by rw [z]))
   refine ⟨_, cs, rfl, fr, hDx, ?_⟩
   rw [eF, List.filter_cons_of_neg (by rw [es]; simpa using c'), List.filter_nil, List.append_nil]
   exact ha
 ·rintro σ Hx ⟨a0, cs, rfl, fr, hDx, ha⟩
  have hal := hA.len
  rw [lqm, hal, List.take_of_length_le (Nat.le_refl _)] at ha
  refine ⟨Dl, _, rfl, .inl ⟨SqL.of hDx, fun c hc => ?_⟩⟩
  exact q c cs _ ((f1.trans fr).trans (FrS.new hc)) zb1 (ha.ckeep (Tup.new hc))
end
end Gn
end
section
namespace Gn
open PySem L2
theorem ys0 {H H' : Hp} {q : Fz × Nat} (h : yp7 H q.1.2) (f : Tup H H') : sel H' q = sel H q := by
 obtain ⟨w, rest, h, _⟩ := h
 unfold sel
 rw [yj0 h, yj0 (f _ _ h)]
theorem yq4 {H : Hp} {q : Fz × Nat} (h : yp7 H q.1.2) (c : sel H q = true) : CallR H q.1.2 := by
 obtain ⟨w, rest, h, hc⟩ := h
 unfold sel at c
 rw [yj0 h] at c
 exact hc (of_decide_eq_true c)
theorem xd1 (A B : List Bz) : zf9 (A ++ B) = zf9 A ++ zf9 B := by
 unfold zf9
 rw [List.flatMap_append]
theorem ProgIs.many {H : Hp} {p : Addr} {ks : List (Str × List Dz)} {m0 : Dz} (h : ProgIs H p ks m0) : (zf1 ks m0).length <= 1000 := by
 obtain ⟨kt, us, lt, _, _, h3, h4, _, h6⟩ := h
 have key : ∀ ks : List (Str × List Dz), (∀ y ∈ ks, y.2.length <= 80) -> (ks.flatMap zg0).length <= 80 * ks.length := by
  intro ks
  induction ks with
  | nil => intro _; exact Nat.zero_le _
  | cons y ks ih =>
   intro h
   have h1 := ih fun z hz => h z (.tail _ hz)
   have h2 := h y (.head _)
   have h3 : (zg0 y).length = y.2.length := by unfold zg0; rw [lqm]
   rw [List.flatMap_cons, List.length_append, List.length_cons]
   omega
 have h7 := key ks fun y hy => by
  obtain ⟨j, hj⟩ := List.mem_iff_getElem?.mp hy
  have hjl : j < us.length := by rw [h3]; exact (List.getElem?_eq_some_iff.mp hj).1
  obtain ⟨e, dt, fs, _, _, g3, _, g5⟩ := h4 j us[j] y (List.getElem?_eq_getElem hjl) hj
  omega
 unfold zf1
 rw [List.length_cons]
 omega
abbrev yx8 : Stmt := top 3
abbrev yc2 : Stmt := top 14
abbrev zr7 : Stmt := top 15
open Classical in
noncomputable def below (tr : Tr) (o x : Str) : Bool := decide (∃ l, Up tr x l /\ o ∈ l)
open Classical in
theorem yq6 {tr : Tr} {o x : Str} {l : List Str} (ok : TrOk tr) (h : Up tr x l) : decide (o ∈ l) = below tr o x := by
 unfold below
 by_cases e : o ∈ l
 ·rw [decide_eq_true e]
  exact (decide_eq_true ⟨l, h, e⟩).symm
 ·rw [decide_eq_false e]
  refine (decide_eq_false ?_).symm
  rintro ⟨l', h', e'⟩
  rw [Up.inj ok h h'] at e
  exact e e'
inductive xs5 (vs : List V) (H : Hp) (Q : VK) : Prop
 | mk (p a : Addr) (o : Str) (tr : Tr) (ss : List Str) (h1 : vs = [.ref p, .ref a, .str o]) (h2 : KindsAt H p tr) (h3 : TrOk tr) (h4 : tr.length <= 12) (h5 : H a = some (.tup (ss.map V.str))) (h6 : ∀ x ∈ ss, ∃ l, Up tr x l) (h7 : ss.length <= 64)
  (h8 : ∀ (b : Addr) (H' : Hp), FrS [] H H' -> H' b = some (.lst ((ss.filter (below tr o)).map V.str)) -> Q (.ref b) H') : xs5 vs H Q
def yr1 : Sp := fun vs H Q _ => xs5 vs H Q
inductive AlbI (H1 : Hp) (p Dl : Addr) (o : Str) (tr : Tr) (ss : List Str) (i : Nat) (σ : St) (Hx : Hp) : Prop
 | mk (x : Option V) (hσ : σ = [x, some (.ref p), some (.str o)]) (fr : FrS [] H1 Hx) (hD : Hx Dl = some (.lst (((ss.take i).filter (below tr o)).map V.str))) : AlbI H1 p Dl o tr ss i σ Hx
section
variable {P : Program} {w : World} {K : PySem.W.Frag} {mg : Str -> Option Value} {base : Heap} {f : Addr} {fd : FuncData}
abbrev xn9 : List Str := ["program", "kinds", "other"]
theorem scAllB : zd3 xn9 xn9 (zb7 yx8) := ⟨rfl, rfl, rfl, by decide +kernel, rfl, by decide +kernel, by decide +kernel⟩
theorem xx7 {k : Nat} (F : Fun K "all_below" "all_below" yx8 f fd) (BE : Cal P w K mg base k "is_below" ["program", "one", "other"] yf1) : FnOk P w K mg base CX0 (k + 1) f fd xn9 yr1 := by
 obtain ⟨g, gd, GB, bB, kB, mB⟩ := BE.ex
 refine F.ok scAllB (fun vs H Q E h => ?_) (fun cdv A outer s H vs Q E hr h => ?_)
 ·obtain ⟨p, a, o, tr, ss, rfl, _⟩ := h
  rfl
 obtain ⟨p, a, o, tr, ss, rfl, hK, hT, h12, ha, hU, hl, q⟩ := h
 have nd3 : (["kind", "program", "other"] : List Str).Nodup := by decide +kernel
 refine ⟨_, zb9 (zd4 (zh8 (N' := ["kind", "program", "other"]) (src := [none, some 0, some 2]) rfl ⟨rfl, by decide +kernel, by decide +kernel, rfl, rfl, rfl⟩ (zj9 (pv 1))
   (g := zf8 0) (fun _ _ _ _ => zc0 (i := 0) nd3 rfl (Or.inl rfl) (Or.inr rfl))
   (tt := tB (zm2 yf1 [] E0 (zc4 (tVar 1) (zc4 (tVar 0) (zc4 (tVar 2) tNil)))))
   (fun _ _ _ _ => zm5 (zt6 (zb8 GB hr rfl mB kB bB .nil zc6 (zb0 (pv 1) (zb0 (pv 0) (zb0 (pv 2) zb2)))))) (fun _ _ _ _ => pv 0))), ?_⟩
 first | dsimp only [cxOf, Cx.nox] | skip
 refine ⟨_, rfl, a, rfl, ⟨_, SqT.of ha⟩, fun Dl hDl => ?_⟩
 refine zm3 (xs := ss.map V.str) (AlbI H p Dl o tr ss) ⟨_, rfl, (FrS.refl).put hDl, zb1⟩ ?_ ?_ ?_
 ·rintro i σ Hx hi ⟨_, _, fr, _⟩
  exact SqT.of (fr _ _ List.not_mem_nil ha)
 ·rintro i x σ Hx hx ⟨x0, rfl, fr, hDx⟩
  rw [List.getElem?_map, Option.map_eq_some_iff] at hx
  obtain ⟨y, hy, rfl⟩ := hx
  obtain ⟨l, hup⟩ := hU y (List.mem_of_getElem? hy)
  have eF : (ss.take (i + 1)).filter (below tr o) = (ss.take i).filter (below tr o) ++ [y].filter (below tr o) := by
   rw [List.take_add_one, hy, List.filter_append]; rfl
  have hfl : ((ss.take i).filter (below tr o)).length <= 64 := by
   have h2 := List.length_filter_le (below tr o) (ss.take i)
   rw [List.length_take] at h2
   omega
  refine ⟨_, rfl, _, rfl, _, rfl, p, y, o, tr, l, rfl, hK.keepT (Tup.of0 fr), hT, h12, hup, fun Hy fy => ⟨_, rfl, ?_⟩⟩
  have hDy := fy _ _ List.not_mem_nil hDx
  rw [yq6 hT hup]
  refine ite2 (fun c => ?_) (fun c => ?_)
  ·refine ⟨_, rfl, _, hDy, zc2 (by rw [lqm]; omega), _, rfl, (fr.trans fy).put hDl, ?_⟩
   rw [zb1, eF, List.filter_cons_of_pos c, List.filter_nil, List.map_append]; rfl
  ·refine ⟨_, rfl, fr.trans fy, ?_⟩
   rw [eF, List.filter_cons_of_neg c, List.filter_nil, List.append_nil]
   exact hDy
 ·rintro σ Hx ⟨x0, rfl, fr, hDx⟩
  rw [lqm, List.take_of_length_le (Nat.le_refl _)] at hDx
  exact q Dl Hx fr hDx
end
def kOf (H : Hp) (a : Addr) : Str := match H a with
 | some (.tup (_ :: _ :: _ :: .str k :: _)) => k
 | _ => ""
theorem yr4 {H : Hp} {a g : Addr} {x y k d : Str} (h : H a = some (.tup [.str "call", .str x, .str y, .str k, .str d, .ref g])) : kOf H a = k := by
 unfold kOf
 rw [h]
inductive ToIs (H : Hp) (e : Addr) (z : Nat × List Str) : Prop
 | mk (t : Addr) (h1 : H e = some (.tup [.int (z.1 : Int), .ref t])) (h2 : H t = some (.tup (z.2.map V.str))) (h3 : z.2.length <= 64) : ToIs H e z
theorem ToIs.keep {H H' : Hp} {e : Addr} {z : Nat × List Str} (h : ToIs H e z) (f : Tup H H') : ToIs H' e z := by
 obtain ⟨t, h1, h2, h3⟩ := h
 exact ⟨t, f _ _ h1, f _ _ h2, h3⟩
theorem _root_.L2.A2.tkeep {H H' : Hp} {qs : List Addr} {L : List (Nat × List Str)} (h : A2 (ToIs H) qs L) (f : Tup H H') : A2 (ToIs H') qs L := h.imp fun _ _ g => g.keep f
noncomputable def toldF (H : Hp) (tr : Tr) (ss : List Str) (B : Str × Str -> Bool) (q : Fz × Nat) : Nat × List Str := (q.2, if B q.1.1 = true then ss.filter (below tr (kOf H q.1.2)) else [])
noncomputable def toldL (H : Hp) (tr : Tr) (ss : List Str) (B : Str × Str -> Bool) (Z : List Fz) : List (Nat × List Str) := ((Z.zipIdx 0).filter (sel H)).map (toldF H tr ss B)
inductive xj0 (K : PySem.W.Frag) (vs : List V) (H : Hp) (Q : VK) : Prop
 | mk (p c a : Addr) (ks : List (Str × List Dz)) (m0 : Dz) (tr : Tr) (ss : List Str) (cs : List Addr) (cn : List (Str × Str)) (h1 : vs = [.ref p, .ref c, .ref a]) (h2 : ProgIs H p ks m0) (h3 : KindsAt H p tr) (h4 : TrOk tr) (h5 : tr.length <= 12)
  (h6 : H c = some (.lst (cs.map V.ref))) (h7 : A2 (BT K H) cs cn) (h8 : H a = some (.tup (ss.map V.str))) (h9 : ∀ x ∈ ss, ∃ l, Up tr x l) (h10 : ss.length <= 64)
  (h11 : ∀ (b : Addr) (es : List Addr) (H' : Hp), FrS [] H H' -> H' b = some (.tup (es.map V.ref)) -> A2 (ToIs H') es (toldL H tr ss (fun n => cn.any fun m => decide (m = n)) (zf9 (zf1 ks m0))) -> Q (.ref b) H') : xj0 K vs H Q
def ym8 (K : PySem.W.Frag) : Sp := fun vs H Q _ => xj0 K vs H Q
inductive AmI (H : Hp) (H1 : Hp) (p c a fl : Addr) (L : List (Nat × List Str)) (i : Nat) (σ : St) (Hx : Hp) : Prop
 | mk (x1 x2 x3 x4 : Option V) (es : List Addr) (hσ : σ = [some (.ref p), some (.ref c), some (.ref a), some (.ref fl), x1, x2, x3, x4]) (fr : FrS [] H Hx) (tp : Tup H1 Hx) (hf : Hx fl = some (.lst (es.map V.ref))) (ha : A2 (ToIs Hx) es (L.take i)) : AmI H H1 p c a fl L i σ Hx
section
variable {P : Program} {w : World} {K : PySem.W.Frag} {mg : Str -> Option Value} {base : Heap} {f : Addr} {fd : FuncData}
abbrev yz1 : List Str := ["program", "come", "kinds"]
theorem zr6 : zd3 ["program", "come", "kinds", "found", "number", "body", "row", "told"] yz1 (zb7 yc2) := ⟨rfl, rfl, rfl, by decide +kernel, rfl, by decide +kernel, by decide +kernel⟩
set_option maxHeartbeats 4000000 in
theorem xn3 {k : Nat} (F : Fun K "told_among" "told_among" yc2 f fd) (CA : Cal P w K mg base k "calls" ["program"] (ym6 K)) (AB : Cal P w K mg base k "all_below" xn9 yr1) (mtu : mg "tuple" = none) : FnOk P w K mg base CX0 (k + 1) f fd yz1 (ym8 K) := by
 obtain ⟨g, gd, GC, bC, kC, mC⟩ := CA.ex
 obtain ⟨g2, gd2, GB, bB, kB, mB⟩ := AB.ex
 refine F.ok zr6 (fun vs H Q E h => ?_) (fun cdv A outer s H vs Q E hr h => ?_)
 ·obtain ⟨p, c, a, ks, m0, tr, ss, cs, cn, rfl, _⟩ := h
  rfl
 obtain ⟨p, c, a, ks, m0, tr, ss, cs, cn, rfl, hP, hK, hT, h12, hc, hcn, ha, hU, hl, q⟩ := h
 have hu := zm7 hr
 refine ⟨_, zb3 (zc3 (i := 3) zr6.nd rfl (Or.inl rfl) (zd7 zb2))
  (zb3 (zg6 PassesOwn.never rfl (zj9 (zb8 GC hr rfl mC kC bC .nil zc6 (zb0 (pv 0) zb2))) (zh4 (n := 3) rfl (zc1 (zc0 (i := 4) zr6.nd rfl (Or.inl rfl)) (zc1 (zc0 (i := 5) zr6.nd rfl (Or.inl rfl)) (zc1 (zc0 (i := 6) zr6.nd rfl (Or.inl rfl)) zg4))))
   (zb3 (zc3 (i := 7) zr6.nd rfl (Or.inl rfl) (xm4 (zc7 (op_inS hu) (pv 5) (pv 1) rfl) (zb8 GB hr rfl mB kB bB .nil zc6 (zb0 (pv 0) (zb0 (pv 2) (zb0 (eT (pv 6) zb6) zb2)))) (zd7 zb2)))
   (zb9 (zg2 (zk6 PySem.F.plainAttrs_list PySem.F.slot_list_append PySem.F.type_list_append zf0 (pv 3) (zb0 (zf6 (zb0 (pv 4) (zb0 (zd1 zc8 rfl mtu (by decide +kernel) (zb0 (pv 7) zb2)) zb2))) zb2))))))
  (zb9 (zd4 (zd1 zc8 rfl mtu (by decide +kernel) (zb0 (pv 3) zb2))))), ?_⟩
 first | dsimp only [cxOf, Cx.nox] | skip
 have s2 : 2 <= sizeLine := Nat.le_of_lt (zc2 (by decide))
 refine ⟨Nat.zero_le _, fun fl hfl => ?_⟩
 have f0 : FrS [] H (upd H fl (.lst [])) := FrS.new hfl
 have t0 := Tup.of0 f0
 refine ⟨_, rfl, p, ks, m0, rfl, hP.keep t0, fun b ns H1 f1 hb hA => ⟨b, rfl, ⟨_, SqT.of hb⟩, ?_⟩⟩
 have hf1 := f1 _ _ List.not_mem_nil zb1
 have fr1 := f0.trans f1
 have hR : ∀ z ∈ zf1 ks m0, RowsIs H z.2 := hP.rows
 have hI := zp5 hR
 have hlen := zj2 hR
 have hmany := hP.many
 have eS : ((zf9 (zf1 ks m0)).zipIdx 0).filter (sel (upd H fl (.lst []))) = ((zf9 (zf1 ks m0)).zipIdx 0).filter (sel H) := by
  refine List.filter_congr fun q hq => ?_
  have hm : q.1 ∈ zf9 (zf1 ks m0) := by
   obtain ⟨j, hj⟩ := List.mem_iff_getElem?.mp hq
   rw [List.getElem?_zipIdx] at hj
   obtain ⟨y, hy, rfl⟩ := Option.map_eq_some_iff.mp hj
   exact List.mem_of_getElem? hy
  exact ys0 (hI q.1 hm) t0
 rw [eS] at hA
 have hnl : ns.length <= 80000 := by
  have h1 := hA.len
  have h2 := List.length_filter_le (sel H) ((zf9 (zf1 ks m0)).zipIdx 0)
  rw [List.length_zipIdx] at h2
  omega
 have hsel : ∀ q ∈ ((zf9 (zf1 ks m0)).zipIdx 0).filter (sel H), CallR H q.1.2 := by
  intro q hq
  obtain ⟨hq, hc⟩ := List.mem_filter.mp hq
  have hm : q.1 ∈ zf9 (zf1 ks m0) := by
   obtain ⟨j, hj⟩ := List.mem_iff_getElem?.mp hq
   rw [List.getElem?_zipIdx] at hj
   obtain ⟨y, hy, rfl⟩ := Option.map_eq_some_iff.mp hj
   exact List.mem_of_getElem? hy
  exact yq4 (hI q.1 hm) hc
 unfold toldL at q
 generalize ((zf9 (zf1 ks m0)).zipIdx 0).filter (sel H) = FL at hA hsel q
 refine zm0 (xs := ns.map V.ref) (AmI H H1 p c a fl (FL.map (toldF H tr ss fun n => cn.any fun m => decide (m = n)))) ⟨_, _, _, _, [], rfl, fr1, (fun _ _ h => h), hf1, .nil⟩ ?_ ?_ ?_
 ·rintro i σ Hx hi ⟨_, _, _, _, _, _, _, tp, _⟩
  exact SqT.of (tp _ _ hb)
 ·rintro i x σ Hx hx ⟨x1, x2, x3, x4, es, rfl, fr, tp, hfx, hE⟩
  rw [List.getElem?_map, Option.map_eq_some_iff] at hx
  obtain ⟨u, hu', rfl⟩ := hx
  obtain ⟨z, hz, bd, u1, u2⟩ := hA.get hu'
  obtain ⟨cx, cy, ck, cd, cg, css, hrow, _, _⟩ := hsel z (List.mem_of_getElem? hz)
  have tHx : Tup H Hx := Tup.of0 fr
  have eT' : (FL.map (toldF H tr ss fun n => cn.any fun m => decide (m = n))).take (i + 1) = (FL.map (toldF H tr ss fun n => cn.any fun m => decide (m = n))).take i ++ [toldF H tr ss (fun n => cn.any fun m => decide (m = n)) z] := by
   rw [List.take_add_one, List.getElem?_map, hz]; rfl
  have hel : es.length <= 80000 := by
   have h1 := hE.len
   have h2 := hA.len
   rw [List.length_take, lqm] at h1
   omega
  refine ⟨u, _, rfl, SqT.of (tp _ _ u1), rfl, _, _, rfl, _, _, rfl, _, _, rfl, rfl, ?_⟩
  have hcn2 : A2 (fun q (n : List Str) => SqT K Hx q (n.map V.str)) cs (cn.map fun n => [n.1, n.2]) := by
   have : ∀ {cs : List Addr} {cn : List (Str × Str)}, A2 (BT K H) cs cn -> A2 (fun q (n : List Str) => SqT K Hx q (n.map V.str)) cs (cn.map fun n => [n.1, n.2]) := by
    intro cs cn h
    induction h with
    | nil => exact .nil
    | cons h _ ih => exact .cons (h.keep tHx).sq ih
   exact this hcn
  have eB : (cn.map fun n => [n.1, n.2]).any (fun n => decide (n = [z.1.1.1, z.1.1.2])) = cn.any fun m => decide (m = z.1.1) := by
   rw [List.any_map]
   congr 1
   funext m
   have : ([m.1, m.2] = [z.1.1.1, z.1.1.2]) ↔ m = z.1.1 := by
    constructor
    ·intro h
     injection h with h1 h2
     injection h2 with h2 _
     exact Prod.ext h1 h2
    ·intro h; rw [h]
   exact decide_eq_decide.mpr this
  have htl : (toldF H tr ss (fun n => cn.any fun m => decide (m = n)) z).2.length <= 64 := by
   unfold toldF
   show (if _ then _ else _ : List Str).length <= 64
   split
   ·exact Nat.le_trans (List.length_filter_le _ _) hl
   ·exact Nat.zero_le _
  have key : ∀ Q : VK, (∀ (tl : Addr) (Hy : Hp), FrS [] Hx Hy -> Hy tl = some (.lst ((toldF H tr ss (fun n => cn.any fun m => decide (m = n)) z).2.map V.str)) -> Q (.ref tl) Hy) ->
    tIf (zm4 (tOp (rInS K) (tVar 5) (tVar 1))) (zm2 yr1 [] E0 (zc4 (tVar 0) (zc4 (tVar 2) (zc4 (tOp (rIxT K) (tVar 6) (tC (.int 3))) tNil)))) (tLst tNil) [some (.ref p), some (.ref c), some (.ref a), some (.ref fl), some (.int (z.2 : Int)), some (.ref bd), some (.ref z.1.2), x4] Hx Q := by
   intro Q hQ
   refine ⟨_, rfl, _, rfl, bd, c, [z.1.1.1, z.1.1.2], cs, _, rfl, rfl, (u2.keep tp).sq, SqL.of (fr _ _ List.not_mem_nil hc), hcn2, _, rfl, ?_⟩
   rw [eB]
   unfold toldF at hQ
   refine ite2 (fun c' => ?_) (fun c' => ?_)
   ·rw [if_pos c', yr4 hrow] at hQ
    exact ⟨_, rfl, _, rfl, _, rfl, z.1.2, _, _, _, rfl, rfl, SqT.of (tHx _ _ hrow), rfl, p, a, ck, tr, ss, rfl, hK.keepT tHx, hT, h12, tHx _ _ ha, hU, hl, fun tl Hy fy htl => hQ tl Hy fy htl⟩
   ·rw [if_neg c'] at hQ
    exact ⟨Nat.zero_le _, fun tl hn => hQ tl _ (FrS.new hn) zb1⟩
  refine key _ fun tl Hy fy htl' => ?_
  have hfy := fy _ _ List.not_mem_nil hfx
  refine ⟨_, rfl, .inl ⟨rfl, _, SqL.of hfy⟩, _, rfl, _, rfl, tl, _, rfl, .inl ⟨SqL.of htl', fun tt htt => ⟨s2, fun te hte => ?_⟩⟩⟩
  have fn : FrS [] Hy (upd (upd Hy tt (.tup ((toldF H tr ss (fun n => cn.any fun m => decide (m = n)) z).2.map V.str))) te (.tup [.int (z.2 : Int), .ref tt])) := (FrS.new htt).trans (FrS.new hte)
  have hfn := fn _ _ List.not_mem_nil hfy
  have tlt : Tup _ (upd (upd (upd Hy tt (.tup ((toldF H tr ss (fun n => cn.any fun m => decide (m = n)) z).2.map V.str))) te (.tup [.int (z.2 : Int), .ref tt])) fl (.lst (es.map V.ref ++ [V.ref te]))) := Tup.lst hfn
  have tn := (Tup.of0 (fy.trans fn)).trans tlt
  refine ⟨fl, _, _, rfl, rfl, hfn, zp9 (by rw [lqm]; omega), _, _, _, _, es ++ [te], rfl, ((fr.trans fy).trans fn).put hfl, tp.trans tn, by rw [zb1, List.map_append]; rfl, ?_⟩
  rw [eT']
  exact (hE.tkeep tn).snoc ⟨tt, tlt _ _ zb1, ((Tup.new hte).trans tlt) _ _ zb1, htl⟩
 ·rintro σ Hx ⟨_, _, _, _, es, rfl, fr, tp, hfx, hE⟩
  rw [lqm, hA.len, ← List.length_map (as := FL) (f := toldF H tr ss fun n => cn.any fun m => decide (m = n)), List.take_of_length_le (Nat.le_refl _)] at hE
  refine ⟨_, rfl, fl, _, rfl, .inl ⟨SqL.of hfx, fun d hd => ?_⟩⟩
  exact q d es _ (fr.trans (FrS.new hd)) zb1 (hE.tkeep (Tup.new hd))
end
end Gn
end
section
namespace Gn
open PySem L2
def okB (ss : List Str) (n : Str × Str) : Bool := decide (n = (("" : Str), ("" : Str))) || decide (n.1 ∈ ss)
theorem zq4 {H H' : Hp} {tr : Tr} {ss : List Str} {B B' : Str × Str -> Bool} {Z : List Fz} (hI : ∀ q ∈ Z, yp7 H q.2) (f : Tup H H') (hB : ∀ q ∈ Z, B q.1 = B' q.1) : toldL H' tr ss B Z = toldL H tr ss B' Z := by
 have mem : ∀ q ∈ Z.zipIdx 0, q.1 ∈ Z := fun q hq => by
  obtain ⟨j, hj⟩ := List.mem_iff_getElem?.mp hq
  rw [List.getElem?_zipIdx] at hj
  obtain ⟨y, hy, rfl⟩ := Option.map_eq_some_iff.mp hj
  exact List.mem_of_getElem? hy
 unfold toldL
 rw [show (Z.zipIdx 0).filter (sel H') = (Z.zipIdx 0).filter (sel H) from List.filter_congr fun q hq => ys0 (hI q.1 (mem q hq)) f]
 refine List.map_congr_left fun q hq => ?_
 obtain ⟨hq, hc⟩ := List.mem_filter.mp hq
 have hm := mem q hq
 obtain ⟨x, y, k, d, g, css, hr, _, _⟩ := yq4 (hI q.1 hm) hc
 unfold toldF
 rw [hB q.1 hm, yr4 hr, yr4 (f _ _ hr)]
inductive SpBy (vs : List V) (H : Hp) (Q : VK) : Prop
 | mk (p a : Addr) (ks : List (Str × List Dz)) (m0 : Dz) (tr : Tr) (ss : List Str) (h1 : vs = [.ref p, .ref a]) (h2 : ProgIs H p ks m0) (h3 : KindsAt H p tr) (h4 : TrOk tr) (h5 : tr.length <= 12)
  (h8 : H a = some (.tup (ss.map V.str))) (h9 : ∀ x ∈ ss, ∃ l, Up tr x l) (h10 : ss.length <= 64)
  (h11 : ∀ (b : Addr) (es : List Addr) (H' : Hp), FrS [] H H' -> H' b = some (.tup (es.map V.ref)) -> A2 (ToIs H') es (toldL H tr ss (okB ss) (zf9 (zf1 ks m0))) -> Q (.ref b) H') : SpBy vs H Q
def spBy : Sp := fun vs H Q _ => SpBy vs H Q
inductive ByI (K : PySem.W.Frag) (H1 : Hp) (a Dl : Addr) (ss : List Str) (L : List (Str × Str)) (i : Nat) (σ : St) (Hx : Hp) : Prop
 | mk (x y : Option V) (cs : List Addr) (hσ : σ = [x, y, some (.ref a)]) (fr : FrS [] H1 Hx) (hD : Hx Dl = some (.lst (cs.map V.ref))) (hA : A2 (BT K Hx) cs ((L.take i).filter (okB ss))) : ByI K H1 a Dl ss L i σ Hx
section
variable {P : Program} {w : World} {K : PySem.W.Frag} {mg : Str -> Option Value} {base : Heap} {f : Addr} {fd : FuncData}
abbrev pBy : List Str := ["program", "there"]
theorem scBy : zd3 ["program", "there", "come"] pBy (zb7 zr7) := ⟨rfl, rfl, rfl, by decide +kernel, rfl, by decide +kernel, by decide +kernel⟩
set_option maxHeartbeats 4000000 in
theorem ok_by {k : Nat} {am : Addr} (F : Fun K "by_tree" "by_tree" zr7 f fd) (BO : Cal P w K mg base k "bodies" ["program"] (zv6 K)) (AM : Cal P w K mg base k "told_among" yz1 (ym8 K)) (mM : mg "MAIN" = some (.ref am)) (hM : ∀ H, SqT K H am [.str "", .str ""]) : FnOk P w K mg base CX0 (k + 1) f fd pBy spBy := by
 obtain ⟨g, gd, GB, bB, kB, mB⟩ := BO.ex
 obtain ⟨g2, gd2, GA, bA, kA, mA⟩ := AM.ex
 refine F.ok scBy (fun vs H Q E h => ?_) (fun cdv A outer s H vs Q E hr h => ?_)
 ·obtain ⟨p, a, ks, m0, tr, ss, rfl, _⟩ := h
  rfl
 obtain ⟨p, a, ks, m0, tr, ss, rfl, hP, hK, hT, h12, ha, hU, hl, q⟩ := h
 have hu := zm7 hr
 have hu' := Nat.lt_of_succ_lt hu
 have nd3 : (["body", "rows", "there"] : List Str).Nodup := by decide +kernel
 refine ⟨_, zb3 (zh1 (i := 2) (N' := ["body", "rows", "there"]) (src := [none, none, some 1]) rfl scBy.nd rfl rfl ⟨rfl, by decide +kernel, by decide +kernel, rfl, rfl, rfl⟩ (zj9 (zb8 GB hr rfl mB kB bB .nil zc6 (zb0 (pv 0) zb2)))
   (g := gTup K 2 (zk1 (zf8 0) (zk1 (zf8 1) gNil))) (fun _ _ _ _ => zh4 (n := 2) rfl (zc1 (zc0 (i := 0) nd3 rfl (Or.inl rfl) (Or.inr rfl)) (zc1 (zc0 (i := 1) nd3 rfl (Or.inl rfl) (Or.inr rfl)) zg4)))
   (fun _ _ _ _ => zm5 (PW.pt (yn2 (zc7 (show OpR _ _ (rEqS K) from op_eqS hu') (pv 0) (ym3 (v := .ref am) rfl mM rfl) (zd8 _)) (zx9 (zc7 (show OpR _ _ (rIn K false) from zg9) (zw0 (show IxR _ (rIxT K) from zs9) (pv 0) zb6 (fun _ _ => rfl)) (pv 2) rfl))))) (fun _ _ _ _ => pv 0))
  (zb9 (zd4 (zb8 GA hr rfl mA kA bA .nil zc6 (zb0 (pv 0) (zb0 (pv 2) (zb0 (pv 1) zb2)))))), ?_⟩
 first | dsimp only [cxOf, Cx.nox] | skip
 refine ⟨_, rfl, p, ks, m0, rfl, hP, fun b qs H1 f1 hb hB hql => ⟨b, rfl, ⟨_, SqT.of hb⟩, fun Dl hDl => ?_⟩⟩
 have hI := zp5 hP.rows
 have hBl := hB.len
 generalize hL : zf1 ks m0 = L at hB hBl
 refine zm3 (xs := qs.map V.ref) (ByI K H1 a Dl ss (L.map (·.1))) ⟨_, _, [], rfl, (FrS.refl).put hDl, zb1, .nil⟩ ?_ ?_ ?_
 ·rintro i σ Hx hi ⟨_, _, _, _, fr, _⟩
  exact SqT.of (fr _ _ List.not_mem_nil hb)
 ·rintro i x σ Hx hx ⟨x0, y0, cs, rfl, fr, hDx, hA⟩
  rw [List.getElem?_map, Option.map_eq_some_iff] at hx
  obtain ⟨u, hu2, rfl⟩ := hx
  obtain ⟨z, hz, bd, u1, u2⟩ := hB.get hu2
  have tx := Tup.of0 fr
  have hbd := (u2.keep tx).sq
  have hcl : cs.length <= 1000 := by
   have h1 := hA.len
   have h2 := List.length_filter_le (okB ss) ((L.map (·.1)).take i)
   rw [List.length_take, lqm] at h2
   omega
  have eF : ((L.map (·.1)).take (i + 1)).filter (okB ss) = ((L.map (·.1)).take i).filter (okB ss) ++ [z.1].filter (okB ss) := by
   rw [List.take_add_one, List.getElem?_map, hz, List.filter_append]; rfl
  have yes : okB ss z.1 = true -> ∀ (te : TE), te = tVar 0 -> te [some (.ref bd), some (.ref z.2.2.1), some (.ref a)] Hx fun v H4 => ∃ ys, H4 Dl = some (.lst ys) /\ ys.length < sizeLine /\ ByI K H1 a Dl ss (L.map (·.1)) (i + 1) [some (.ref bd), some (.ref z.2.2.1), some (.ref a)] (upd H4 Dl (.lst (ys ++ [v]))) := by
   rintro c _ rfl
   refine ⟨_, rfl, _, hDx, zc2 (by rw [lqm]; omega), _, _, cs ++ [bd], rfl, fr.put hDl, by rw [zb1, List.map_append]; rfl, ?_⟩
   rw [eF, List.filter_cons_of_pos c, List.filter_nil]
   have tl : Tup Hx (upd Hx Dl (.lst (cs.map V.ref ++ [V.ref bd]))) := Tup.lst hDx
   exact (hA.imp fun _ _ h => h.keep tl).snoc (u2.keep (tx.trans tl))
  refine ⟨u, _, rfl, SqT.of (tx _ _ u1), rfl, _, _, rfl, _, _, rfl, rfl, ?_⟩
  refine ⟨_, rfl, bd, am, [z.1.1, z.1.2], ["", ""], rfl, rfl, hbd, hM _, _, rfl, ?_⟩
  refine ite2 (fun c => ?_) (fun c => ?_)
  ·have c' : z.1 = (("" : Str), ("" : Str)) := by
    have := of_decide_eq_true c
    injection this with h1 h2
    injection h2 with h2 _
    exact Prod.ext h1 h2
   exact yes (by unfold okB; rw [decide_eq_true c']; rfl) _ rfl
  have c' : z.1 ≠ (("" : Str), ("" : Str)) := fun e => c (decide_eq_true (by rw [e]))
  refine ⟨_, rfl, bd, _, _, .str z.1.1, rfl, rfl, hbd, yw4 _ _, _, rfl, a, _, rfl, .inr (SqT.of (tx _ _ (Tup.of0 f1 _ _ ha))), rfl, zg7 _, _, rfl, ?_⟩
  show if inV (.str z.1.1) (ss.map V.str) = true then _ else _
  rw [zn0]
  refine ite2 (fun c2 => ?_) (fun c2 => ?_)
  ·exact yes (by unfold okB; rw [decide_eq_true (of_decide_eq_true c2), Bool.or_true]) _ rfl
  ·have c2' : z.1.1 ∉ ss := fun e => c2 (decide_eq_true e)
   refine ⟨_, _, cs, rfl, fr, hDx, ?_⟩
   rw [eF, List.filter_cons_of_neg (by unfold okB; rw [decide_eq_false c', decide_eq_false c2']; decide), List.filter_nil, List.append_nil]
   exact hA
 ·rintro σ Hx ⟨x0, y0, cs, rfl, fr, hDx, hA⟩
  rw [lqm, hBl, ← List.length_map (as := L) (f := (·.1)), List.take_of_length_le (Nat.le_refl _)] at hA
  have fx := f1.trans fr
  have tx := Tup.of0 fx
  refine ⟨_, rfl, _, rfl, _, rfl, p, Dl, a, ks, m0, tr, ss, cs, _, rfl, hP.keep tx, hK.keepT tx, hT, h12, hDx, hA, tx _ _ ha, hU, hl, fun d es H2 f2 hd hE => ?_⟩
  refine q d es H2 (fx.trans f2) hd ?_
  rw [zq4 (H := H) hI tx fun n hn => ?_] at hE
  ·exact hE
  ·have hm : n.1 ∈ L.map (·.1) := by
    rw [hL] at hn
    unfold zf9 at hn
    obtain ⟨z, hz, hn⟩ := List.mem_flatMap.mp hn
    obtain ⟨y, _, rfl⟩ := List.mem_map.mp hn
    exact List.mem_map.mpr ⟨z, hz, rfl⟩
   cases e : okB ss n.1 with
   | true =>
    rw [List.any_eq_true]
    exact ⟨n.1, List.mem_filter.mpr ⟨hm, e⟩, decide_eq_true rfl⟩
   | false =>
    rw [List.any_eq_false]
    intro x hx
    obtain ⟨_, hx2⟩ := List.mem_filter.mp hx
    intro h
    have := of_decide_eq_true h
    rw [this, e] at hx2
    cases hx2
end
end Gn
end
section
namespace Gn
open PySem L2
abbrev yc6 : Stmt := top 35
inductive xf0 (vs : List V) (H : Hp) (Q : VK) : Prop
 | mk (hd p : Addr) (d m t r : Int) (tr : Tr) (h1 : vs = [.ref hd, .ref p]) (h2 : Hand H hd d m t r) (h3 : t <= 100000) (h4 : KindsAt H p tr) (h5 : TrOk tr) (h6 : tr.length <= 12) (h7 : LateAt H p)
  (h8 : ∀ (a : Addr) (ss : List Str) (H' : Hp) (d' m' t' : Int), FrS [hd] H H' -> H' a = some (.tup (ss.map V.str)) -> ss.length <= 12 -> (∀ x ∈ ss, ∃ l, Up tr x l) -> PyProof.Rows.sortedS ss = true -> Hand H' hd d' m' t' r -> t' <= t + 20 -> Q (.ref a) H') : xf0 vs H Q
def ym2 : Sp := fun vs H Q _ => xf0 vs H Q
inductive ThI (H : Hp) (hd p fl : Addr) (so : Bool) (tr : Tr) (t r : Int) (i : Nat) (σ : St) (Hx : Hp) : Prop
 | mk (x4 x5 x6 x7 : Option V) (ns : List Str) (dx mx tx : Int) (hσ : σ = [some (.ref hd), some (.ref p), some (.ref fl), some (.bl so), x4, x5, x6, x7]) (fr : FrS [hd] H Hx) (hf : Hx fl = some (.lst (ns.map V.str))) (hn : ns.length <= i) (hU : ∀ x ∈ ns, ∃ l, Up tr x l) (hh : Hand Hx hd dx mx tx r) (ht : tx <= t + 1 + i) : ThI H hd p fl so tr t r i σ Hx
section
variable {P : Program} {w : World} {K : PySem.W.Frag} {mg : Str -> Option Value} {base : Heap} {f : Addr} {fd : FuncData}
abbrev xk5 : List Str := ["_law_hand_here", "_law_program_here"]
theorem zq3 : zd3 ["_law_hand_here", "_law_program_here", "_law_found", "_law_some", "_law_name", "_law_elder", "_law_deeds", "_law_must"] xk5 (zb7 yc6) := ⟨rfl, rfl, rfl, by decide +kernel, rfl, by decide +kernel, by decide +kernel⟩
set_option maxHeartbeats 4000000 in
theorem xn6 {k : Nat} (F : Fun K "_law_there" "_law_there" yc6 f fd) (T : Cal P w K mg base k "_law_take" ["_law_hand_here", "_law_many"] zh5) (mtu : mg "tuple" = none) (mso : mg "sorted" = none) : FnOk P w K mg base CX0 (k + 1) f fd xk5 ym2 := by
 obtain ⟨g, gd, GT, bT, kT, mT⟩ := T.ex
 refine F.ok zq3 (fun vs H Q E h => ?_) (fun cdv A outer s H vs Q E hr h => ?_)
 ·obtain ⟨hd, p, d, m, t, r, tr, rfl, _⟩ := h
  rfl
 obtain ⟨hd, p, d, m, t, r, tr, rfl, hh, ht, hK, hT, h12, hL, q⟩ := h
 refine ⟨_, zb3 (zc3 (i := 2) zq3.nd rfl (Or.inl rfl) (zd7 zb2))
  (zb3 (zc3 (i := 3) zq3.nd rfl (Or.inl rfl) (zn2 zp1 (zb8 GT hr rfl mT kT bT .nil zc6 (zb0 (pv 0) (zb0 zb6 zb2))) zb6 (zd8 _)))
  (zb3 (zg6 PassesOwn.never rfl (zj9 (eT (pv 1) zb6)) (zh4 (n := 3) rfl (zc1 (zc0 (i := 4) zq3.nd rfl (Or.inl rfl)) (zc1 (zc0 (i := 5) zq3.nd rfl (Or.inl rfl)) (zc1 (zc0 (i := 6) zq3.nd rfl (Or.inl rfl)) zg4))))
   (zb3 (zc3 (i := 7) zq3.nd rfl (Or.inl rfl) (yt3 (zn2 zp3 (pv 4) (eT (pv 1) zb6) rfl) (xg7 (xv0 (pv 3)))))
   (zb9 (zh9 (PW.pt (yn2 (zt6 (pv 7)) (zx9 (PW.pt (zn4 (PW.pt (yn2 (zt7 (ys4 (pv 5))) (zx9 (zc7 zg9 (pv 5) (pv 2) rfl)))) (zk9 (zc7 zp1 (zb8 GT hr rfl mT kT bT .nil zc6 (zb0 (pv 0) (zb0 zb6 zb2))) zb6 (zd8 _))))))))
    (zb9 (zg2 (zk6 PySem.F.plainAttrs_list PySem.F.slot_list_append PySem.F.type_list_append zf0 (pv 2) (zb0 (pv 4) zb2)))) zd9))))
  (zb9 (zd4 (zd1 zc8 rfl mtu (by decide +kernel) (zb0 (zd6 zk0 rfl mso (by decide +kernel) (zb0 (pv 2) zb2)) zb2)))))), ?_⟩
 first | dsimp only [cxOf, Cx.nox] | skip
 refine ⟨Nat.zero_le _, fun fl hfl => ?_⟩
 have hfd : hd ≠ fl := zb4 hh.1 hfl
 have hh1 : Hand (upd H fl (.lst [])) hd d m t r := ⟨by rw [zb5 hfd]; exact hh.1, hh.2⟩
 refine ⟨_, rfl, hd, d, m, t, r, 4, rfl, hh1, by omega, by decide, by decide, fun x d1 m1 t1 x0 x1 c1 e1 => ⟨rfl, ?_⟩⟩
 generalize decide (V.int x = V.int 0) = so
 have f0 : FrS [hd] H (upd (upd H fl (.lst [])) hd (hl d1 m1 t1 r)) := (FrS.new hfl).put' (.head _)
 obtain ⟨kt, ts, x', y', hp, hk, hlen, hts⟩ := id hK
 obtain ⟨kt2, lt, m2, late, hp2, hlt, hll⟩ := id hL
 have tp0 := f0.tup1 hh.1
 refine ⟨_, rfl, p, _, _, _, rfl, rfl, SqT.of (tp0 _ _ hp), rfl, kt, rfl, ⟨_, SqT.of (tp0 _ _ hk)⟩, ?_⟩
 refine zm0 (xs := ts.map V.ref) (ThI H hd p fl so tr t r) ⟨_, _, _, _, [], d1, m1, t1, rfl, f0, by rw [zb5 (Ne.symm hfd)]; exact zb1, Nat.le_refl _, (fun x h => by cases h), Hand.at c1, by omega⟩ ?_ ?_ ?_
 ·rintro i σ Hx hi ⟨_, _, _, _, _, _, _, _, _, fr, _⟩
  exact SqT.of (fr.tup1 hh.1 _ _ hk)
 ·rintro i x σ Hx hx ⟨x4, x5, x6, x7, ns, dx, mx, tx, rfl, fr, hf, hn, hU, hhx, htx⟩
  rw [List.getElem?_map, Option.map_eq_some_iff] at hx
  obtain ⟨u, hu, rfl⟩ := hx
  have hi : i < tr.length := by rw [← hlen]; exact (List.getElem?_eq_some_iff.mp hu).1
  have hz : tr[i]? = some tr[i] := List.getElem?_eq_getElem hi
  obtain ⟨v, hv⟩ := hts i u _ hu hz
  obtain ⟨l, hup⟩ := Up.exists hT i _ _ hz
  have tpx := fr.tup1 hh.1
  refine ⟨u, _, rfl, SqT.of (tpx _ _ hv), rfl, _, _, rfl, _, _, rfl, _, _, rfl, rfl, ?_⟩
  have must : ∀ Q : VK, (∀ b : Bool, Q (.bl b) Hx) -> tAndV (tOp (rIn K true) (tVar 4) (tOp (rIxT K) (tVar 1) (tC (.int 1)))) (tNotV (tVar 3)) [some (.ref hd), some (.ref p), some (.ref fl), some (.bl so), some (.str tr[i].1), some (eldV tr[i].2), some v, x7] Hx Q := by
   intro Q hQ
   refine ⟨_, rfl, _, rfl, p, _, _, _, rfl, rfl, SqT.of (tpx _ _ hp2), rfl, lt, _, rfl, .inr (SqT.of (tpx _ _ hlt)), rfl, zg7 _, _, rfl, ?_⟩
   refine ite2 (fun c => ?_) (fun c => ?_)
   ·exact ⟨_, rfl, _, rfl, hQ _⟩
   ·exact hQ _
  refine must _ fun mu => ?_
  have cond : ∀ Q : Bool -> Hp -> Prop, (∀ (b : Bool) (Hy : Hp) (dy my ty : Int), FrS [hd] H Hy -> Hy fl = some (.lst (ns.map V.str)) -> Hand Hy hd dy my ty r -> ty <= tx + 1 -> Q b Hy) ->
    tOr (tB (tVar 7)) (tAnd (tOr (tB (tIsN (tVar 5))) (zm4 (tOp (rIn K false) (tVar 5) (tVar 2)))) (zm4 (tOp rEq (zm2 zh5 [] E0 (zc4 (tVar 0) (zc4 (tC (.int 2)) tNil))) (tC (.int 0))))) [some (.ref hd), some (.ref p), some (.ref fl), some (.bl so), some (.str tr[i].1), some (eldV tr[i].2), some v, some (.bl mu)] Hx Q := by
   intro Q hQ
   have hf' := hf
   refine ⟨_, rfl, _, rfl, ?_⟩
   refine ite2 (fun c => hQ _ Hx dx mx tx fr hf hhx (by omega)) (fun c => ?_)
   have tk : zm4 (tOp rEq (zm2 zh5 [] E0 (zc4 (tVar 0) (zc4 (tC (.int 2)) tNil))) (tC (.int 0))) [some (.ref hd), some (.ref p), some (.ref fl), some (.bl so), some (.str tr[i].1), some (eldV tr[i].2), some v, some (.bl mu)] Hx Q := by
    refine ⟨_, rfl, hd, dx, mx, tx, r, 2, rfl, hhx, by omega, by decide, by decide, fun y d2 m2' t2 y0 y1 c2 e2 => ⟨rfl, _, rfl, ?_⟩⟩
    exact hQ _ _ d2 m2' t2 (fr.put' (.head _)) (by rw [zb5 (Ne.symm hfd)]; exact hf) (Hand.at c2) e2
   refine ⟨_, rfl, _, rfl, ?_⟩
   refine ite2 (fun c => ?_) (fun c => ?_)
   ·exact tk
   ·refine ⟨_, rfl, _, rfl, fl, _, rfl, .inl (SqL.of hf), by cases tr[i].2 <;> rfl, zg7 _, _, rfl, ?_⟩
    refine ite2 (fun c => ?_) (fun c => ?_)
    ·exact tk
    ·exact hQ _ Hx dx mx tx fr hf hhx (by omega)
  refine cond _ fun b Hy dy my ty fy hfy hhy hty => ?_
  cases b with
  | true =>
   have fn : FrS [hd] H (upd Hy fl (.lst (ns.map V.str ++ [V.str tr[i].1]))) := fy.put hfl
   refine ⟨_, rfl, .inl ⟨rfl, _, SqL.of hfy⟩, _, rfl, fl, _, _, rfl, rfl, hfy, zc2 (by rw [lqm]; omega), ?_⟩
   refine ⟨_, _, _, _, ns ++ [tr[i].1], dy, my, ty, rfl, fn, by rw [zb1, List.map_append]; rfl, by rw [List.length_append, List.length_singleton]; omega, fun x hx => ?_, ⟨by rw [zb5 hfd]; exact hhy.1, hhy.2⟩, by omega⟩
   rcases List.mem_append.mp hx with hx | hx
   ·exact hU x hx
   ·have e : x = tr[i].1 := by simpa using hx
    rw [e]; exact ⟨l, hup⟩
  | false => exact ⟨_, _, _, _, ns, dy, my, ty, rfl, fy, hfy, by omega, hU, hhy, by omega⟩
 ·rintro σ Hx ⟨x4, x5, x6, x7, ns, dx, mx, tx, rfl, fr, hf, hn, hU, hhx, htx⟩
  rw [lqm, hlen] at hn htx
  refine ⟨_, rfl, fl, ns, rfl, SqL.of hf, by omega, fun sl ss hsl hperm hso => ⟨sl, _, rfl, .inl ⟨SqL.of zb1, fun a ha => ?_⟩⟩⟩
  have fn : FrS [] Hx (upd (upd Hx sl (.lst (ss.map V.str))) a (.tup (ss.map V.str))) := (FrS.new hsl).trans (FrS.new ha)
  exact q a ss _ dx mx tx (fr.trans (fn.mono (fun _ h => absurd h List.not_mem_nil))) zb1 (by rw [hperm.length_eq]; omega) (fun x hx => hU x (hperm.mem_iff.mp hx)) hso ⟨fn _ _ List.not_mem_nil hhx.1, hhx.2⟩ (by omega)
end
end Gn
end
section
namespace Gn
open PySem L2
abbrev yn0 : Stmt := top 36
inductive yt7 (n : Nat) (vs : List V) (H : Hp) (Q : VK) : Prop
 | mk (l : Addr) (rs fs : List Addr) (h1 : vs = [.ref l]) (h2 : H l = some (.tup (rs.map V.ref))) (h3 : Fl H n rs fs) (h4 : fs.length <= 1000) (h5 : ∀ (p : Addr) (H' : Hp), FrS [] H H' -> H' p = some (.lst (fs.map V.ref)) -> Q (.ref p) H') : yt7 n vs H Q
def zv3 (n : Nat) : Sp := fun vs H Q _ => yt7 n vs H Q
def yh8 : Nat -> Sp
 | 0 => fun _ _ _ _ => False
 | n + 1 => zv3 n
inductive LisI (n : Nat) (H : Hp) (l p : Addr) (rs fs : List Addr) (i : Nat) (σ : St) (Hx : Hp) : Prop
 | mk (a b : Option V) (f1 f2 : List Addr) (hσ : σ = [some (.ref l), some (.ref p), a, b]) (fr : FrS [] H Hx) (hp : Hx p = some (.lst (f1.map V.ref))) (he : fs = f1 ++ f2) (hl : Fl Hx n (rs.drop i) f2) : LisI n H l p rs fs i σ Hx
inductive LisJ (H H2 : Hp) (l p a : Addr) (g1 : List Addr) (ls : List Lz) (j : Nat) (σ : St) (Hx : Hp) : Prop
 | mk (b : Option V) (hσ : σ = [some (.ref l), some (.ref p), some (.ref a), b]) (fr : FrS [] H Hx) (tp : Tup H2 Hx) (hp : Hx p = some (.lst ((g1 ++ (ls.take j).flatMap (·.2.2)).map V.ref))) : LisJ H H2 l p a g1 ls j σ Hx
section
variable {P : Program} {w : World} {K : PySem.W.Frag} {mg : Str -> Option Value} {base : Heap} {f : Addr} {fd : FuncData}
abbrev pLis : List Str := ["_law_rows_here"]
theorem zr0 : zd3 ["_law_rows_here", "_law_found", "_law_row_here", "_law_lot"] pLis (zb7 yn0) := ⟨rfl, rfl, rfl, by decide +kernel, rfl, by decide +kernel, by decide +kernel⟩
set_option maxHeartbeats 4000000 in
theorem yh0 {k n : Nat} (F : Fun K "_law_flat" "_law_flat" yn0 f fd) (LI : Cal P w K mg base k "_law_flat" pLis (yh8 n)) : FnOk P w K mg base CX0 (k + 1) f fd pLis (zv3 n) := by
 obtain ⟨g, gd, GL, bL, kL, mL⟩ := LI.ex
 refine F.ok zr0 (fun vs H Q E h => ?_) (fun cdv A outer s H vs Q E hr h => ?_)
 ·obtain ⟨l, rs, fs, rfl, _⟩ := h
  rfl
 obtain ⟨l, rs, fs, rfl, hl, hF, hb, q⟩ := h
 refine ⟨_, zb3 (zc3 (i := 1) zr0.nd rfl (Or.inl rfl) (zd7 zb2))
  (zb3 (zg6 PassesOwn.never rfl (zj9 (pv 0)) (zc0 (i := 2) zr0.nd rfl (Or.inl rfl))
   (zb3 (zg2 (zk6 PySem.F.plainAttrs_list PySem.F.slot_list_append PySem.F.type_list_append zf0 (pv 1) (zb0 (pv 2) zb2)))
   (zb9 (zh9 (zc7 zg9 (eT (pv 2) zb6) (zf6 (yh9 (yh9 zb2))) rfl)
    (zb9 (zg6 PassesOwn.never rfl (zj9 (zj8 xv2 (pv 2) (zk8 zb6) zm1)) (zc0 (i := 3) zr0.nd rfl (Or.inl rfl))
     (zb9 (zg2 (zk6 PySem.F.plainAttrs_list PySem.F.slot_list_extend PySem.F.type_list_extend zx3 (pv 1) (zb0 (zb8 GL hr rfl mL kL bL .nil zc6 (zb0 (pv 3) zb2)) zb2)))))) zd9))))
  (zb9 (zd4 (pv 1)))), ?_⟩
 first | dsimp only [cxOf, Cx.nox] | skip
 have s2 : 2 <= sizeLine := Nat.le_of_lt (zc2 (by decide))
 refine ⟨Nat.zero_le _, fun p hp0 => ?_⟩
 have t0 : Tup H (upd H p (.lst [])) := Tup.new hp0
 refine ⟨_, rfl, l, rfl, ⟨_, SqT.of (t0 _ _ hl)⟩, ?_⟩
 refine zm0 (xs := rs.map V.ref) (LisI n H l p rs fs) ⟨_, _, [], fs, rfl, FrS.new hp0, zb1, rfl, hF.keep t0⟩ ?_ ?_ ?_
 ·rintro i σ Hx hi ⟨_, _, _, _, _, fr, _⟩
  exact SqT.of (fr _ _ List.not_mem_nil hl)
 ·rintro i x σ Hx hx ⟨a0, b0, f1, f2, rfl, fr, hp, rfl, hFx⟩
  rw [List.getElem?_map, Option.map_eq_some_iff] at hx
  obtain ⟨a, ha, rfl⟩ := hx
  obtain ⟨hi, rfl⟩ := List.getElem?_eq_some_iff.mp ha
  rw [List.drop_eq_getElem_cons hi] at hFx
  obtain ⟨w, rest, ls, fs', h1, h2, h3, rfl, h5, h6⟩ := hFx.hd
  generalize rs[i] = a at h1
  rw [List.length_append, List.length_cons, List.length_append] at hb
  refine ⟨_, rfl, .inl ⟨rfl, _, SqL.of hp⟩, _, rfl, p, _, _, rfl, rfl, hp, zp9 (by rw [lqm]; omega), ?_⟩
  rw [show f1.map V.ref ++ [V.ref a] = (f1 ++ [a]).map V.ref by rw [List.map_append]; rfl]
  have tn : Tup Hx (upd Hx p (.lst ((f1 ++ [a]).map V.ref))) := Tup.lst hp
  have fr1 : FrS [] H (upd Hx p (.lst ((f1 ++ [a]).map V.ref))) := fr.put hp0
  have hpn : upd Hx p (.lst ((f1 ++ [a]).map V.ref)) p = some (.lst ((f1 ++ [a]).map V.ref)) := zb1
  have h1' := tn _ _ h1
  have h3' : ∀ z ∈ ls, LotIs _ n z := fun z hz => (h3 z hz).keep tn
  have h5' := h5.keep tn
  generalize upd Hx p (.lst ((f1 ++ [a]).map V.ref)) = H1 at hpn fr1 h1' h3' h5'
  refine ⟨_, rfl, a, _, _, .str w, rfl, rfl, SqT.of h1', yw4 _ _, s2, fun pd hpd => ?_⟩
  have fd' : FrS [] H1 (upd H1 pd (.tup [.str "either", .str "again"])) := FrS.new hpd
  have hd2 : upd H1 pd (.tup [.str "either", .str "again"]) pd = some (.tup [.str "either", .str "again"]) := zb1
  refine ⟨pd, _, rfl, .inr (SqT.of hd2), rfl, rfl, _, rfl, ?_⟩
  have fr2 := fr1.trans fd'
  have t2 := Tup.of0 fd'
  have hp2 := fd' _ _ List.not_mem_nil hpn
  have h1'' := t2 _ _ h1'
  have h3'' : ∀ z ∈ ls, LotIs _ n z := fun z hz => (h3' z hz).keep t2
  have h5'' := h5'.keep t2
  generalize upd H1 pd (.tup [.str "either", .str "again"]) = H2 at fr2 hp2 h1'' h3'' h5''
  have ei : inV (.str w) [.str "either", .str "again"] = decide (w = "either" ∨ w = "again") := by
   have := zn0 w ["either", "again"]
   simpa using this
  show if inV (.str w) [.str "either", .str "again"] = true then _ else _
  rw [ei]
  refine ite2 (fun c => ?_) (fun c => ?_)
  ·have hw : zj5 w rest = rest := by unfold zj5; rw [if_pos (of_decide_eq_true c)]
   refine ⟨_, rfl, _, rfl, a, _, rfl, SqT.of h1'', ?_, fun pc hpc => ?_⟩
   ·intro z
    have := z.1
    unfold HT.sIx at this
    simp at this
   rw [cut1, ← hw, h2]
   have f3 : FrS [] H2 (upd H2 pc (.tup (ls.map fun z => V.ref z.1))) := FrS.new hpc
   have hc3 : upd H2 pc (.tup (ls.map fun z => V.ref z.1)) pc = some (.tup (ls.map fun z => V.ref z.1)) := zb1
   have fr3 := fr2.trans f3
   have hp3 := f3 _ _ List.not_mem_nil hp2
   have t3 := Tup.of0 f3
   generalize upd H2 pc (.tup (ls.map fun z => V.ref z.1)) = H3 at f3 hc3 fr3 hp3 t3
   refine ⟨pc, rfl, ⟨_, SqT.of hc3⟩, ?_⟩
   refine zm0 (xs := ls.map fun z => V.ref z.1) (LisJ H H3 l p a (f1 ++ [a]) ls) ⟨_, rfl, fr3, (fun _ _ h => h), by rw [List.take_zero, List.flatMap_nil, List.append_nil]; exact hp3⟩ ?_ ?_ ?_
   ·rintro j σ Hy hj ⟨_, _, _, ty, _⟩
    exact SqT.of (ty _ _ hc3)
   ·rintro j x σ Hy hx ⟨b1, rfl, fy, ty, hpy⟩
    rw [List.getElem?_map, Option.map_eq_some_iff] at hx
    obtain ⟨z, hz, rfl⟩ := hx
    obtain ⟨n', rfl, z1, z2⟩ := (h3'' z (List.mem_of_getElem? hz)).keep (t3.trans ty)
    have hjl : j < ls.length := (List.getElem?_eq_some_iff.mp hz).1
    have hsum : ((ls.take j).flatMap (·.2.2)).length + z.2.2.length <= (ls.flatMap (·.2.2)).length := by
     have e : ls = ls.take j ++ (z :: ls.drop (j + 1)) := by
      rw [← (List.getElem?_eq_some_iff.mp hz).2, ← List.drop_eq_getElem_cons hjl, List.take_append_drop]
     conv => rhs; rw [e]
     rw [List.flatMap_append, List.flatMap_cons, List.length_append, List.length_append]
     omega
    have e : (ls.take (j + 1)).flatMap (·.2.2) = (ls.take j).flatMap (·.2.2) ++ z.2.2 := by
     rw [List.take_add_one, hz, List.flatMap_append]; simp
    refine ⟨_, rfl, .inl ⟨rfl, _, SqL.of hpy⟩, _, rfl, z.1, z.2.1, z.2.2, rfl, z1, z2, by omega, fun p4 Hz fz hp4 => ?_⟩
    have hpz := fz _ _ List.not_mem_nil hpy
    refine ⟨p, p4, _, _, rfl, rfl, hpz, hp4, Nat.le_of_lt (zp9 (by rw [lqm, lqm, List.length_append, List.length_append, List.length_singleton]; omega)), ?_⟩
    exact ⟨_, rfl, (fy.trans fz).put hp0, (ty.trans (Tup.of0 fz)).trans (Tup.lst hpz), by rw [zb1, e, ← List.append_assoc, ← List.map_append]⟩
   ·rintro σ Hy ⟨b1, rfl, fy, ty, hpy⟩
    rw [lqm, List.take_of_length_le (Nat.le_refl _)] at hpy
    exact ⟨_, _, f1 ++ [a] ++ ls.flatMap (·.2.2), fs', rfl, fy, hpy, by simp, h5''.keep (t3.trans ty)⟩
  ·have hw : zj5 w rest = [] := by unfold zj5; rw [if_neg fun z => c (decide_eq_true z)]
   rw [h2] at hw
   have : ls = [] := by
    cases ls with
    | nil => rfl
    | cons _ _ => cases hw
   subst this
   exact ⟨_, _, f1 ++ [a], fs', rfl, fr2, hp2, by simp, h5''⟩
 ·rintro σ Hx ⟨a0, b0, f1, f2, rfl, fr, hp, rfl, hFx⟩
  rw [lqm, List.drop_of_length_le (Nat.le_refl _)] at hFx
  cases hFx
  rw [List.append_nil] at q
  exact ⟨_, rfl, q p Hx fr hp⟩
end
end Gn
end
section
namespace Gn
open PySem L2
abbrev sUp : Stmt := top 38
inductive SpUp (vs : List V) (H : Hp) (Q : VK) : Prop
 | mk (p : Addr) (n : Str) (tr : Tr) (l : List Str) (h1 : vs = [.ref p, .str n]) (h2 : KindsAt H p tr) (h3 : TrOk tr) (h4 : tr.length <= 12) (h5 : Up tr n l) (h6 : ∀ (a : Addr) (H' : Hp), FrS [] H H' -> H' a = some (.lst (l.map V.str)) -> Q (.ref a) H') : SpUp vs H Q
def spUp : Sp := fun vs H Q _ => SpUp vs H Q
inductive UpI (H1 : Hp) (Dl : Addr) (tr : Tr) (i : Nat) (σ : St) (Hx : Hp) : Prop
 | mk (x y z : Option V) (us : List Addr) (hσ : σ = [x, y, z]) (fr : FrS [] H1 Hx) (hD : Hx Dl = some (.lst (us.map V.ref))) (ha : A2 (fun u (z : Str × Option Str) => Hx u = some (.tup [.str z.1, eldV z.2])) us (tr.take i)) : UpI H1 Dl tr i σ Hx
inductive UpW (H1 : Hp) (p Dp pl : Addr) (n : Str) (tr : Tr) (l : List Str) (σ : St) (Hx : Hp) : Prop
 | mk (dn rs : List Str) (x : Str) (hσ : σ = [some (.ref p), some (.str n), some (.ref Dp), some (.ref pl)]) (hH : Hx = upd H1 pl (.lst ((dn ++ [x]).map V.str))) (hu : Up tr x rs) (he : dn ++ rs = l) (hd : dn.length <= 12) : UpW H1 p Dp pl n tr l σ Hx
section
variable {P : Program} {w : World} {K : PySem.W.Frag} {mg : Str -> Option Value} {base : Heap} {f : Addr} {fd : FuncData}
abbrev pUp : List Str := ["_law_program_here", "_law_kind"]
theorem scUp : zd3 ["_law_program_here", "_law_kind", "_law_elder_of", "_law_found"] pUp (zb7 sUp) := ⟨rfl, rfl, rfl, by decide +kernel, rfl, by decide +kernel, by decide +kernel⟩
set_option maxHeartbeats 4000000 in
theorem ok_up {k : Nat} (F : Fun K "_law_up" "_law_up" sUp f fd) (mdi : mg "dict" = none) : FnOk P w K mg base CX0 (k + 1) f fd pUp spUp := by
 refine F.ok scUp (fun vs H Q E h => ?_) (fun cdv A outer s H vs Q E hr h => ?_)
 ·obtain ⟨p, n, tr, l, rfl, _⟩ := h
  rfl
 obtain ⟨p, n, tr, l, rfl, ⟨kt, ts, x, y, hp, hk, hlen, hts⟩, ok, h12, hup, q⟩ := h
 have hu := zm7 hr
 have hl12 : l.length <= 12 := by
  obtain ⟨i, g, hi⟩ := hup.at
  have := Up.len ok i n g l hi hup
  obtain ⟨h1, _⟩ := List.getElem?_eq_some_iff.mp hi
  omega
 have nd3 : (["_law_name", "_law_elder", "_law_deeds"] : List Str).Nodup := by decide +kernel
 refine ⟨_, zb3 (zc3 (i := 2) scUp.nd rfl (Or.inl rfl) (zd1 (zj3 rfl) rfl mdi (by decide +kernel) (zb0 (zh8 (N' := ["_law_name", "_law_elder", "_law_deeds"]) (src := [none, none, none]) rfl ⟨rfl, by decide +kernel, by decide +kernel, rfl, rfl, rfl⟩
   (zj9 (eT (pv 0) zb6))
   (g := gTup K 3 (zk1 (zf8 0) (zk1 (zf8 1) (zk1 (zf8 2) gNil)))) (fun _ _ _ _ => zh4 (n := 3) rfl (zc1 (zc0 (i := 0) nd3 rfl (Or.inl rfl) (Or.inr rfl)) (zc1 (zc0 (i := 1) nd3 rfl (Or.inl rfl) (Or.inr rfl)) (zc1 (zc0 (i := 2) nd3 rfl (Or.inl rfl) (Or.inr rfl)) zg4))))
   (fun _ _ _ _ => zh3) (te := tTup (zc4 (tVar 0) (zc4 (tVar 1) tNil))) (fun _ _ _ _ => zf6 (zb0 (pv 0) (zb0 (pv 1) zb2)))) zb2)))
  (zb3 (zc3 (i := 3) scUp.nd rfl (Or.inl rfl) (zd7 (zb0 (pv 1) zb2)))
  (zb3 (yg4 PassesOwn.never (zt7 (zz5 (zc9 hu (pv 2) (eI (pv 3) (yf3 zq5 zb6)) (fun _ _ => rfl))))
   (zb9 (zg2 (zk6 PySem.F.plainAttrs_list PySem.F.slot_list_append PySem.F.type_list_append zf0 (pv 3) (zb0 (zc9 hu (pv 2) (eI (pv 3) (yf3 zq5 zb6)) (fun _ _ => rfl)) zb2)))))
  (zb9 (zd4 (pv 3))))), ?_⟩
 first | dsimp only [cxOf, Cx.nox] | skip
 have s1 : ∀ {n : Nat}, n <= 1000 -> n < sizeLine := fun h => zc2 h
 have s2 : 2 <= sizeLine := Nat.le_of_lt (zc2 (by decide))
 refine ⟨_, rfl, p, _, _, _, rfl, rfl, SqT.of hp, rfl, kt, rfl, ⟨_, SqT.of hk⟩, fun Dl hDl => ?_⟩
 refine zm3 (xs := ts.map V.ref) (UpI H Dl tr) ⟨_, _, _, [], rfl, (FrS.refl).put hDl, zb1, .nil⟩ ?_ ?_ ?_
 ·rintro i σ Hx hi ⟨_, _, _, _, _, fr, _⟩
  exact SqT.of (fr _ _ List.not_mem_nil hk)
 ·rintro i x σ Hx hx ⟨_, _, _, us, rfl, fr, hDx, hA⟩
  rw [List.getElem?_map, Option.map_eq_some_iff] at hx
  obtain ⟨u, hu', rfl⟩ := hx
  have hi : i < tr.length := by rw [← hlen]; exact (List.getElem?_eq_some_iff.mp hu').1
  have hz : tr[i]? = some tr[i] := List.getElem?_eq_getElem hi
  obtain ⟨v, hv⟩ := hts i u _ hu' hz
  have hul : us.length <= 12 := by
   have := hA.len
   rw [List.length_take] at this
   omega
  refine ⟨u, _, rfl, SqT.of (fr _ _ List.not_mem_nil hv), rfl, _, _, rfl, _, _, rfl, _, _, rfl, rfl, ?_⟩
  refine ⟨_, rfl, _, rfl, s2, fun te hte => ?_⟩
  have hDn := (FrS.new (S := []) (o := .tup [V.str tr[i].1, eldV tr[i].2]) hte) _ _ List.not_mem_nil hDx
  have tl : Tup _ (upd (upd Hx te (.tup [V.str tr[i].1, eldV tr[i].2])) Dl (.lst (us.map V.ref ++ [V.ref te]))) := Tup.lst hDn
  refine ⟨_, hDn, zc2 (by rw [lqm]; omega), _, _, _, us ++ [te], rfl, (fr.trans (FrS.new hte)).put hDl, by rw [zb1, List.map_append]; rfl, ?_⟩
  rw [List.take_add_one, hz]
  exact (hA.imp fun a b h => ((Tup.new hte).trans tl) _ _ h).snoc (tl _ _ zb1)
 ·rintro σ H1 ⟨_, _, _, us, rfl, f1, hD1, hA⟩
  rw [lqm, hlen, List.take_of_length_le (Nat.le_refl _)] at hA
  have hkl : (kvE tr).length = tr.length := by unfold kvE; rw [lqm]
  refine ⟨Dl, us, kvE tr, rfl, SqL.of hD1, by rw [hkl]; exact hA.len, by rw [hkl]; exact s1 (by omega), fun j t kv ht hkv => ?_, fun Dp hDp => ?_⟩
  ·unfold kvE at hkv
   rw [List.getElem?_map] at hkv
   obtain ⟨x, hx, rfl⟩ := Option.map_eq_some_iff.mp hkv
   obtain ⟨x', hx', h⟩ := hA.get ht
   rw [hx] at hx'
   cases hx'
   exact SqT.of h
  rw [yk2 ok]
  refine ⟨_, rfl, by show 1 <= sizeLine; decide, fun pl hpl => ?_⟩
  have hDl' : Dp ≠ pl := fun z => by rw [← z, zb1] at hpl; cases hpl
  have f2 : FrS [] H (upd H1 Dp (.dK (kvE tr))) := f1.trans (FrS.new hDp)
  have hDp2 : upd H1 Dp (.dK (kvE tr)) Dp = some (.dK (kvE tr)) := zb1
  generalize upd H1 Dp (.dK (kvE tr)) = H2 at hpl f2 hDp2
  refine yd0 (UpW H2 p Dp pl n tr l) (fun σ Hx => match Hx pl with | some (.lst xs) => 100 - xs.length | _ => 0) ⟨[], l, n, rfl, rfl, hup, rfl, by decide⟩ ?_ ?_
  ·rintro σ Hx ⟨dn, rs, x, rfl, rfl, hx, hl, hd⟩
   have hdl : ∀ o, upd H2 pl o Dp = some (.dK (kvE tr)) := fun o => by rw [zb5 hDl']; exact hDp2
   have hlen' : ∀ y : Str, ((dn ++ [y]).map V.str).length = dn.length + 1 := fun y => by simp
   cases hx with
   | @root i _ hi =>
    refine ⟨_, rfl, _, rfl, _, rfl, pl, _, _, _, rfl, rfl, SqL.of zb1, zs7 dn x, Dp, V.non, rfl, ?_, _, rfl, ?_⟩
    ·have := DGet.k (k := (Sum.inr x : Key)) (hdl (.lst ((dn ++ [x]).map V.str)))
     rw [zp0 ok hi] at this
     exact this
    ·show if (!decide (V.non = V.non)) = true then _ else _
     rw [if_neg (by simp)]
     exact ⟨_, rfl, q pl _ (f2.trans (FrS.new hpl)) (by rw [zb1, ← hl])⟩
   | @step i _ e l' hi hb =>
    refine ⟨_, rfl, _, rfl, _, rfl, pl, _, _, _, rfl, rfl, SqL.of zb1, zs7 dn x, Dp, V.str e, rfl, ?_, _, rfl, ?_⟩
    ·have := DGet.k (k := (Sum.inr x : Key)) (hdl (.lst ((dn ++ [x]).map V.str)))
     rw [zp0 ok hi] at this
     exact this
    ·show if (!decide (V.str e = V.non)) = true then _ else _
     rw [if_pos (by simp)]
     refine ⟨_, rfl, .inl ⟨rfl, _, SqL.of zb1⟩, _, rfl, _, rfl, _, rfl, pl, _, _, _, rfl, rfl, SqL.of zb1, zs7 dn x, Dp, V.str e, rfl, ?_, pl, _, _, rfl, rfl, zb1, ?_, ⟨dn ++ [x], l', e, rfl, ?_, hb, by rw [← hl]; simp, ?_⟩, ?_⟩
     ·have := DGet.k (k := (Sum.inr x : Key)) (hdl (.lst ((dn ++ [x]).map V.str)))
      rw [zp0 ok hi] at this
      exact this
     ·rw [hlen']; exact s1 (by omega)
     ·rw [zs3, List.map_append (l₁ := dn ++ [x])]
      rfl
     ·have := congrArg List.length hl
      rw [List.length_append, List.length_cons] at this
      rw [List.length_append, List.length_singleton]
      omega
     ·show (match upd _ pl _ pl with | some (HO.lst xs) => 100 - xs.length | _ => 0) < (match upd _ pl _ pl with | some (HO.lst xs) => 100 - xs.length | _ => 0)
      rw [zb1, zb1]
      show 100 - (((dn ++ [x]).map V.str) ++ [V.str e]).length < 100 - ((dn ++ [x]).map V.str).length
      rw [List.length_append, hlen', List.length_singleton]
      omega
  ·intro σ Hx R R' hR hc
   obtain ⟨v1, h1, v2, h2, v3, h3, p', xs, i', v', h4, h5, h6, h7, a', v8, h8, h9, c, h10, h11⟩ := hc
   exact ⟨v1, h1, v2, h2, v3, h3, p', xs, i', v', h4, h5, h6, h7, a', v8, h8, h9, c, h10, hR _ _ h11⟩
end
end Gn
end
section
namespace Gn
open PySem L2
abbrev yv3 : Stmt := top 37
theorem xx8 {K : PySem.W.Frag} {H H' : Hp} {a : Addr} {xs : List V} (h : SqL K H a xs) (f : ∀ b o, H b = some o -> H' b = some o) : SqL K H' a xs := by
 rcases h with (h | ⟨o, h⟩) | h
 ·exact .inl (.inl (f _ _ h))
 ·exact .inl (.inr ⟨o, f _ _ h⟩)
 ·exact .inr h
theorem yx5 {K : PySem.W.Frag} {a : Addr} {xs : List V} {g : TG} {tt : TT} {te : TE} {D : Addr} {σ0 : St} {H0 : Hp} {Q : Hp -> Prop} (Pv : Nat -> St -> Hp -> Prop) (h0 : Pv 0 σ0 H0) (hl : ∀ i σ H, i <= xs.length -> Pv i σ H -> SqL K H a xs)
  (hs : ∀ i x p σ H, xs[i]? = some x -> Pv i σ H -> H p = none -> g (.ref p) σ (upd H p (.tup [.int (i : Nat), x])) fun σ2 H2 => tt σ2 H2 fun b H3 => if b = true then te σ2 H3 fun v H4 => ∃ ys, H4 D = some (.lst ys) /\ ys.length < sizeLine /\ Pv (i + 1) σ2 (upd H4 D (.lst (ys ++ [v]))) else Pv (i + 1) σ2 H3)
  (hd : ∀ σ H, Pv xs.length σ H -> Q H) : zz8 (Ite K a) g tt te D σ0 H0 Q := by
 refine ⟨fun i m σ H => m = xs.length - i /\ i <= xs.length /\ Pv i σ H, ⟨xs.length, by simp, Nat.zero_le _, h0⟩, ?_⟩
 rintro i m σ H ⟨rfl, hi, p⟩
 have q := hl i σ H hi p
 by_cases hlt : i < xs.length
 ·refine .inr ⟨⟨xs, xs[i], q, by simp [hlt]⟩, Pv (i + 1), fun σ' H' p' => ⟨xs.length - (i + 1), by omega, rfl, hlt, p'⟩, fun x H' y => ?_⟩
  obtain ⟨p2, y2, hp2, rfl, rfl, yy⟩ := y
  exact hs i y2 p2 σ _ (yy xs q) p hp2
 ·have e : i = xs.length := by omega
  subst e
  exact .inl ⟨⟨xs, q, Nat.le_refl _⟩, hd σ H p⟩
inductive PaIs (H : Hp) (p : Addr) (z : Fz) : Prop
 | mk (bd : Addr) (h1 : H p = some (.tup [.ref bd, .ref z.2])) (h2 : H bd = some (.tup [.str z.1.1, .str z.1.2])) : PaIs H p z
theorem PaIs.keep {H H' : Hp} {p : Addr} {z : Fz} (h : PaIs H p z) (f : Tup H H') : PaIs H' p z := by
 obtain ⟨bd, h1, h2⟩ := h
 exact ⟨bd, f _ _ h1, f _ _ h2⟩
theorem _root_.L2.A2.pkeep {H H' : Hp} {qs : List Addr} {L : List Fz} (h : A2 (PaIs H) qs L) (f : Tup H H') : A2 (PaIs H') qs L := h.imp fun _ _ g => g.keep f
inductive PwI (H1 : Hp) (Dl : Addr) (Pσ : St -> Prop) (L : List Fz) (i : Nat) (σ : St) (Hx : Hp) : Prop
 | mk (ps : List Addr) (hσ : Pσ σ) (fr : FrS [] H1 Hx) (hD : Hx Dl = some (.lst (ps.map V.ref))) (ha : A2 (PaIs Hx) ps (L.take i)) : PwI H1 Dl Pσ L i σ Hx
theorem yb4 {K : PySem.W.Frag} {H1 : Hp} {a Dl : Addr} {fs : List Addr} {n : Str × Str} {te : TE} {σ0 : St} {Pσ : St -> Prop} (ha : H1 a = some (.lst (fs.map V.ref))) (hD : H1 Dl = none) (hb : fs.length <= 1000) (h0 : Pσ σ0) (hset : ∀ σ v, Pσ σ -> Pσ (σ.set 0 (some v)))
  (hte : ∀ σ x H (Q : VK), Pσ σ -> FrS [] H1 H -> (∀ t1 t2, H t1 = none -> upd H t1 (.tup [.str n.1, .str n.2]) t2 = none -> Q (.ref t2) (upd (upd H t1 (.tup [.str n.1, .str n.2])) t2 (.tup [.ref t1, .ref x]))) -> te (σ.set 0 (some (.ref x))) H Q)
  {Q : Hp -> Prop} (hq : ∀ ps Hx, FrS [] H1 Hx -> Hx Dl = some (.lst (ps.map V.ref)) -> A2 (PaIs Hx) ps (fs.map fun a => (n, a)) -> Q Hx) : zz8 (Itl K a) (zf8 0) tAll te Dl σ0 (upd H1 Dl (.lst [])) Q := by
 refine zj7 (xs := fs.map V.ref) (PwI H1 Dl Pσ (fs.map fun a => (n, a))) ⟨[], h0, (FrS.refl).put hD, zb1, .nil⟩ ?_ ?_ ?_
 ·rintro i σ Hx hi ⟨_, _, fr, _⟩
  exact SqL.of (fr _ _ List.not_mem_nil ha)
 ·rintro i x σ Hx hx ⟨ps, hσ, fr, hDx, hA⟩
  rw [List.getElem?_map, Option.map_eq_some_iff] at hx
  obtain ⟨y, hy, rfl⟩ := hx
  have eT : (fs.map fun a => (n, a)).take (i + 1) = (fs.map fun a => (n, a)).take i ++ [(n, y)] := by
   rw [List.take_add_one, List.getElem?_map, hy]; rfl
  have hpl : ps.length <= fs.length := by
   have := hA.len
   rw [List.length_take, lqm] at this
   omega
  refine hte σ y Hx _ hσ fr fun t1 t2 h1 h2 => ?_
  have fn : FrS [] Hx (upd (upd Hx t1 (.tup [.str n.1, .str n.2])) t2 (.tup [.ref t1, .ref y])) := (FrS.new h1).trans (FrS.new h2)
  have hDn := fn _ _ List.not_mem_nil hDx
  have tl : Tup _ (upd (upd (upd Hx t1 (.tup [.str n.1, .str n.2])) t2 (.tup [.ref t1, .ref y])) Dl (.lst (ps.map V.ref ++ [V.ref t2]))) := Tup.lst hDn
  refine ⟨_, hDn, zc2 (by rw [lqm]; omega), ps ++ [t2], hset σ _ hσ, (fr.trans fn).put hD, by rw [zb1, List.map_append]; rfl, ?_⟩
  rw [eT]
  exact (hA.pkeep ((Tup.of0 fn).trans tl)).snoc ⟨t1, tl _ _ zb1, ((Tup.new h2).trans tl) _ _ zb1⟩
 ·rintro σ Hx ⟨ps, hσ, fr, hDx, hA⟩
  rw [lqm, List.take_of_length_le (by rw [lqm]; exact Nat.le_refl _)] at hA
  exact hq ps Hx fr hDx hA
inductive xs3 (K : PySem.W.Frag) (vs : List V) (H : Hp) (Q : VK) : Prop
 | mk (p : Addr) (ks : List (Str × List Dz)) (m0 : Dz) (h1 : vs = [.ref p]) (h2 : ProgIs H p ks m0) (h3 : ∀ (b : Addr) (ns : List Addr) (H' : Hp), FrS [] H H' -> H b = none -> H' b = some (.lst (ns.map V.ref)) -> A2 (CaIs K H') ns ((zf9 (zf1 ks m0)).zipIdx 0) -> Q (.ref b) H') : xs3 K vs H Q
def xc6 (K : PySem.W.Frag) : Sp := fun vs H Q _ => xs3 K vs H Q
inductive RoI (H H1 : Hp) (p fl : Addr) (L : List Bz) (σ : St) (Hx : Hp) : Prop
 | mk (x2 x3 x4 x5 : Option V) (ps : List Addr) (h1 : σ = [some (.ref p), some (.ref fl), x2, x3, x4, x5]) (h2 : FrS [] H Hx) (tp : Tup H1 Hx) (h3 : Hx fl = some (.lst (ps.map V.ref))) (h4 : A2 (PaIs Hx) ps (zf9 L)) : RoI H H1 p fl L σ Hx
inductive RoJ (H H1 : Hp) (p fl : Addr) (n : Str) (e : V) (dt : Addr) (L : List Bz) (σ : St) (Hx : Hp) : Prop
 | mk (x5 : Option V) (ps : List Addr) (h1 : σ = [some (.ref p), some (.ref fl), some (.str n), some e, some (.ref dt), x5]) (h2 : FrS [] H Hx) (tp : Tup H1 Hx) (h3 : Hx fl = some (.lst (ps.map V.ref))) (h4 : A2 (PaIs Hx) ps (zf9 L)) : RoJ H H1 p fl n e dt L σ Hx
inductive NuI (K : PySem.W.Frag) (H2 : Hp) (Dl : Addr) (QL : List (Fz × Nat)) (i : Nat) (σ : St) (Hx : Hp) : Prop
 | mk (x y : Option V) (cs : List Addr) (hσ : σ = [x, y]) (fr : FrS [] H2 Hx) (hD : Hx Dl = some (.lst (cs.map V.ref))) (ha : A2 (CaIs K Hx) cs (QL.take i)) : NuI K H2 Dl QL i σ Hx
section
variable {P : Program} {w : World} {K : PySem.W.Frag} {mg : Str -> Option Value} {base : Heap} {f : Addr} {fd : FuncData}
theorem yb3 : zd3 ["_law_program_here", "_law_found", "_law_name", "_law_elder", "_law_deeds", "_law_deed_here"] ["_law_program_here"] (zb7 yv3) := ⟨rfl, rfl, rfl, by decide +kernel, rfl, by decide +kernel, by decide +kernel⟩
set_option maxHeartbeats 8000000 in
theorem wb1 {k : Nat} (F : Fun K "_law_numbered" "_law_numbered" yv3 f fd) (LI : Cal P w K mg base k "_law_flat" pLis (zv3 4)) (me : mg "enumerate" = none) : FnOk P w K mg base CX0 (k + 1) f fd ["_law_program_here"] (xc6 K) := by
 obtain ⟨g3, gd3, GL, bL, kL, mL⟩ := LI.ex
 refine F.ok yb3 (fun vs H Q E h => ?_) (fun cdv A outer s H vs Q E hr h => ?_)
 ·obtain ⟨p, ks, m0, rfl, _⟩ := h
  rfl
 obtain ⟨p, ks, m0, rfl, hP, q⟩ := h
 have nd1 : (["_law_row_here"] : List Str).Nodup := by decide +kernel
 have nd2 : (["_law_k", "_law_one"] : List Str).Nodup := by decide +kernel
 have nd3 : (["_law_row_here", "_law_name", "_law_deed_here"] : List Str).Nodup := by decide +kernel
 refine ⟨_, zb3 (zh1 (i := 1) (N' := ["_law_row_here"]) (src := [none]) rfl yb3.nd rfl rfl ⟨rfl, by decide +kernel, by decide +kernel, rfl, rfl, rfl⟩ (zh0 (zb8 GL hr rfl mL kL bL .nil zc6 (zb0 (eT (pv 0) zb6) zb2)))
    (g := zf8 0) (fun _ _ _ _ => zc0 (i := 0) nd1 rfl (Or.inl rfl) (Or.inr rfl)) (fun _ _ _ _ => zh3)
    (te := tTup (zc4 (tTup (zc4 (tC (.str "")) (zc4 (tC (.str "")) tNil))) (zc4 (tVar 0) tNil))) (fun _ _ _ _ => zf6 (zb0 (zf6 (zb0 zd5 (zb0 zd5 zb2))) (zb0 (pv 0) zb2))))
  (zb3 (zg6 PassesOwn.never rfl (zj9 (eT (pv 0) zb6)) (zh4 (n := 3) rfl (zc1 (zc0 (i := 2) yb3.nd rfl (Or.inr rfl)) (zc1 (zc0 (i := 3) yb3.nd rfl (Or.inl rfl)) (zc1 (zc0 (i := 4) yb3.nd rfl (Or.inl rfl)) zg4))))
   (zb9 (zg6 PassesOwn.never rfl (zj9 (pv 4)) (zc0 (i := 5) yb3.nd rfl (Or.inr rfl))
    (zb9 (zg2 (zk6 PySem.F.plainAttrs_list PySem.F.slot_list_extend PySem.F.type_list_extend zx3 (pv 1) (zb0 (zh8 (N' := ["_law_row_here", "_law_name", "_law_deed_here"]) (src := [none, some 2, some 5]) rfl ⟨rfl, by decide +kernel, by decide +kernel, rfl, rfl, rfl⟩ (zh0 (zb8 GL hr rfl mL kL bL .nil zc6 (zb0 (eT (pv 5) zb6) zb2)))
      (g := zf8 0) (fun _ _ _ _ => zc0 (i := 0) nd3 rfl (Or.inl rfl) (Or.inr rfl)) (fun _ _ _ _ => zh3)
      (te := tTup (zc4 (tTup (zc4 (tVar 1) (zc4 (tOp (rIxT K) (tVar 2) (tC (.int 0))) tNil))) (zc4 (tVar 0) tNil))) (fun _ _ _ _ => zf6 (zb0 (zf6 (zb0 (pv 1) (zb0 (zw0 (show IxR _ (rIxT K) from zs9) (pv 2) zb6 (fun _ _ => rfl)) zb2))) (zb0 (pv 0) zb2)))) zb2)))))))
  (zb9 (zd4 (zh8 (N' := ["_law_k", "_law_one"]) (src := [none, none]) rfl ⟨rfl, by decide +kernel, by decide +kernel, rfl, rfl, rfl⟩ (xj8 rfl me (zb0 (pv 1) zb2))
    (g := gTup K 2 (zk1 (zf8 0) (zk1 (zf8 1) gNil))) (fun _ _ _ _ => zh4 (n := 2) rfl (zc1 (zc0 (i := 0) nd2 rfl (Or.inl rfl) (Or.inr rfl)) (zc1 (zc0 (i := 1) nd2 rfl (Or.inl rfl) (Or.inr rfl)) zg4)))
    (fun _ _ _ _ => zh3)
    (te := tTup (zc4 (tVar 0) (zc4 (tOp (rIxT K) (tVar 1) (tC (.int 0))) (zc4 (tOp (rIxT K) (tVar 1) (tC (.int 1))) tNil)))) (fun _ _ _ _ => zf6 (zb0 (pv 0) (zb0 (zw0 (show IxR _ (rIxT K) from zs9) (pv 1) zb6 (fun _ _ => rfl)) (zb0 (zw0 (show IxR _ (rIxT K) from zs9) (pv 1) zb6 (fun _ _ => rfl)) zb2)))))))), ?_⟩
 first | dsimp only [cxOf, Cx.nox] | skip
 have s2 : 2 <= sizeLine := Nat.le_of_lt (zc2 (by decide))
 have s3 : 3 <= sizeLine := Nat.le_of_lt (zc2 (by decide))
 have hR := hP.rows
 have hlen := zj2 hR
 have hmany := hP.many
 obtain ⟨kt, us, lt, hp, hk, hks, hKi, hM, h12⟩ := id hP
 obtain ⟨m1, m2, m3⟩ := id hM
 refine ⟨_, rfl, p, _, _, _, rfl, rfl, SqT.of hp, rfl, m0.2.1, m0.2.2.1, m0.2.2.2, rfl, m1, m2, by omega, fun la H2 f2 hla => ⟨la, rfl, ⟨_, SqL.of hla⟩, fun fl hfl => ?_⟩⟩
 refine yb4 (n := (("" : Str), ("" : Str))) (Pσ := fun σ => ∃ x, σ = [x]) hla hfl (by omega) ⟨_, rfl⟩ (by rintro σ v ⟨x, rfl⟩; exact ⟨_, rfl⟩) (by
  rintro σ x H Q ⟨x0, rfl⟩ _ h
  exact ⟨s2, fun t1 h1 => ⟨_, rfl, s2, fun t2 h2 => h t1 t2 h1 h2⟩⟩) fun ps0 H3 f3 hD3 hA3 => ?_
 have f13 := f2.trans f3
 have hflH : H fl = none := yg8 f2 hfl
 refine ⟨_, rfl, p, _, _, _, rfl, rfl, SqT.of (f13 _ _ List.not_mem_nil hp), rfl, kt, rfl, ⟨_, SqT.of (f13 _ _ List.not_mem_nil hk)⟩, ?_⟩
 refine zm0 (xs := us.map V.ref) (fun i => RoI H H p fl (zf1 (ks.take i) m0)) ⟨_, _, _, _, ps0, rfl, f13, Tup.of0 f13, hD3, ?_⟩ ?_ ?_ ?_
 ·have e : zf9 (zf1 (ks.take 0) m0) = m0.2.2.2.map fun a => (((("" : Str), ("" : Str)), a) : Fz) := by unfold zf9 zf1; simp
  rw [e]; exact hA3
 ·rintro i σ Hx hi ⟨_, _, _, _, _, _, fr, _⟩
  exact SqT.of (fr _ _ List.not_mem_nil hk)
 ·rintro i x σ Hx hx ⟨_, _, _, _, ps, rfl, fr, _, hra, hA⟩
  rw [List.getElem?_map, Option.map_eq_some_iff] at hx
  obtain ⟨u, hu, rfl⟩ := hx
  have hi : i < ks.length := by rw [← hks]; exact (List.getElem?_eq_some_iff.mp hu).1
  have hy : ks[i]? = some ks[i] := List.getElem?_eq_getElem hi
  obtain ⟨e, dt, ds, d1, d2, d3, d4, d5⟩ := hKi i u _ hu hy
  have eL : zf1 (ks.take (i + 1)) m0 = zf1 (ks.take i) m0 ++ zg0 ks[i] := by
   unfold zf1
   rw [List.take_add_one, hy, List.flatMap_append, List.cons_append]
   simp
  have hsub : ∀ z ∈ zf1 (ks.take i) m0 ++ zg0 ks[i], z ∈ zf1 ks m0 := by
   intro z hz
   rw [← eL] at hz
   unfold zf1 at hz ⊢
   rcases List.mem_cons.mp hz with rfl | hz
   ·exact .head _
   ·obtain ⟨y, hy', hz'⟩ := List.mem_flatMap.mp hz
    exact .tail _ (List.mem_flatMap.mpr ⟨y, List.mem_of_mem_take hy', hz'⟩)
  have hbl : (zf1 (ks.take i) m0 ++ zg0 ks[i]).length <= 1000 := by
   rw [← eL]
   refine Nat.le_trans ?_ hmany
   unfold zf1
   rw [List.length_cons, List.length_cons]
   have : ks = ks.take (i + 1) ++ ks.drop (i + 1) := (List.take_append_drop _ _).symm
   conv => rhs; rw [this]
   rw [List.flatMap_append, List.length_append]
   omega
  rw [eL]
  generalize ks[i] = y at d1 d3 d4 hsub hbl
  refine ⟨u, _, rfl, SqT.of (fr _ _ List.not_mem_nil d1), rfl, _, _, rfl, _, _, rfl, _, _, rfl, rfl, ?_⟩
  refine ⟨_, rfl, dt, rfl, ⟨_, SqT.of (fr _ _ List.not_mem_nil d2)⟩, ?_⟩
  refine zm0 (xs := ds.map V.ref) (fun j => RoJ H H p fl y.1 e dt (zf1 (ks.take i) m0 ++ (zg0 y).take j)) ⟨_, ps, rfl, fr, Tup.of0 fr, hra, by rw [List.take_zero, List.append_nil]; exact hA⟩ ?_ ?_ ?_
  ·rintro j σ Hy hj ⟨_, _, _, fy, _⟩
   exact SqT.of (fy _ _ List.not_mem_nil d2)
  ·rintro j x σ Hy hx ⟨_, ps, rfl, fy, _, hra, hA⟩
   rw [List.getElem?_map, Option.map_eq_some_iff] at hx
   obtain ⟨g, hg, rfl⟩ := hx
   have hj : j < y.2.length := by rw [← d3]; exact (List.getElem?_eq_some_iff.mp hg).1
   have hz : y.2[j]? = some y.2[j] := List.getElem?_eq_getElem hj
   obtain ⟨pv', gv', g1, g2⟩ := d4 j g _ hg hz
   have eD : (zg0 y).take (j + 1) = (zg0 y).take j ++ [((y.1, y.2[j].1), y.2[j])] := by
    have : (zg0 y)[j]? = some ((y.1, y.2[j].1), y.2[j]) := by unfold zg0; rw [List.getElem?_map, hz]; rfl
    rw [List.take_add_one, this]; rfl
   have hps : ps.length <= 80000 := by
    have h1 := hA.len
    have h2 := zj2 (H := H) (L := zf1 (ks.take i) m0 ++ (zg0 y).take j) fun z hz => by
     refine hR z (hsub z ?_)
     rcases List.mem_append.mp hz with hz | hz
     ·exact List.mem_append.mpr (.inl hz)
     ·exact List.mem_append.mpr (.inr (List.mem_of_mem_take hz))
    have h3 : (zf1 (ks.take i) m0 ++ (zg0 y).take j).length <= 1000 := by
     refine Nat.le_trans ?_ hbl
     rw [List.length_append, List.length_append, List.length_take]
     omega
    omega
   rw [eD, ← List.append_assoc]
   generalize y.2[j] = z at g1 g2
   obtain ⟨r1, r2, r3⟩ := g2.keep (Tup.of0 fy)
   refine ⟨_, rfl, .inl ⟨rfl, _, SqL.of hra⟩, _, rfl, g, _, _, _, rfl, rfl, SqT.of (fy _ _ List.not_mem_nil g1), rfl, z.2.1, z.2.2.1, z.2.2.2, rfl, r1, r2, by omega, fun lb H4 f4 hlb => ⟨lb, rfl, ⟨_, SqL.of hlb⟩, fun De hDe => ?_⟩⟩
   refine yb4 (n := (y.1, z.1)) (Pσ := fun σ => ∃ x, σ = [x, some (.str y.1), some (.ref g)]) hlb hDe (by omega) ⟨_, rfl⟩ (by rintro σ v ⟨x, rfl⟩; exact ⟨_, rfl⟩) (by
    rintro σ x Hq Q ⟨x0, rfl⟩ fq h
    exact ⟨_, rfl, _, rfl, g, _, _, _, rfl, rfl, SqT.of (((fy.trans f4).trans fq) _ _ List.not_mem_nil g1), rfl, s2, fun t1 h1 => ⟨_, rfl, s2, fun t2 h2 => h t1 t2 h1 h2⟩⟩) fun pn H5 f5 hD5 hA5 => ?_
   have f45 := f4.trans f5
   have hpn := hA5.len
   rw [lqm] at hpn
   have hr5 := f45 _ _ List.not_mem_nil hra
   have tl : Tup H5 (upd H5 fl (.lst (ps.map V.ref ++ pn.map V.ref))) := Tup.lst hr5
   refine ⟨fl, De, _, _, rfl, rfl, hr5, hD5, Nat.le_of_lt (zp9 (by rw [lqm, lqm]; omega)), ?_⟩
   have fz : FrS [] H (upd H5 fl (.lst (ps.map V.ref ++ pn.map V.ref))) := (fy.trans f45).put hflH
   refine ⟨_, ps ++ pn, rfl, fz, Tup.of0 fz, by rw [zb1, List.map_append], ?_⟩
   rw [xd1]
   have e1 : zf9 [((y.1, z.1), z)] = z.2.2.2.map fun a => ((y.1, z.1), a) := by unfold zf9; simp
   rw [e1]
   exact (hA.pkeep ((Tup.of0 f45).trans tl)).app (hA5.pkeep tl)
  ·rintro σ Hy ⟨_, ps, rfl, fy, ty, hra, hA⟩
   have el : (zg0 y).take (ds.map V.ref).length = zg0 y := List.take_of_length_le (by unfold zg0; rw [lqm, lqm]; omega)
   rw [el] at hA
   exact ⟨_, _, _, _, ps, rfl, fy, ty, hra, hA⟩
 rintro σ H6 ⟨_, _, _, _, ps, rfl, f6, _, hra, hA⟩
 rw [lqm, hks, List.take_of_length_le (Nat.le_refl _)] at hA
 have hpl := hA.len
 refine ⟨_, rfl, fl, _, rfl, SqL.of hra, fun Du hDu => ?_⟩
 refine yx5 (xs := ps.map V.ref) (NuI K H6 Du ((zf9 (zf1 ks m0)).zipIdx 0)) ⟨_, _, [], rfl, (FrS.refl).put hDu, zb1, .nil⟩ ?_ ?_ ?_
 ·rintro i σ Hx hi ⟨_, _, _, _, fr, _⟩
  exact SqL.of (fr _ _ List.not_mem_nil hra)
 ·rintro i x pt σ Hx hx ⟨_, _, cs, rfl, fr, hDx, hC⟩ hpt
  rw [List.getElem?_map, Option.map_eq_some_iff] at hx
  obtain ⟨u, hu, rfl⟩ := hx
  obtain ⟨z, hz, bd, u1, u2⟩ := hA.get hu
  have tpx : Tup H6 Hx := Tup.of0 fr
  have tpt : Tup Hx (upd Hx pt (.tup [.int (i : Nat), .ref u])) := Tup.new hpt
  have hzi : ((zf9 (zf1 ks m0)).zipIdx 0)[i]? = some (z, i) := by rw [List.getElem?_zipIdx, hz]; simp
  have hcl : cs.length <= 80000 := by
   have h1 := hC.len
   rw [List.length_take, List.length_zipIdx] at h1
   omega
  have hu6 := tpt _ _ (tpx _ _ u1)
  refine ⟨pt, _, rfl, SqT.of zb1, rfl, _, _, rfl, _, _, rfl, rfl, ?_⟩
  refine ⟨_, rfl, _, rfl, u, _, _, _, rfl, rfl, SqT.of hu6, rfl, _, rfl, u, _, _, _, rfl, rfl, SqT.of hu6, rfl, s3, fun pe hpe => ?_⟩
  have fn : FrS [] Hx (upd (upd Hx pt (.tup [.int (i : Nat), .ref u])) pe (.tup [.int (i : Nat), .ref bd, .ref z.2])) := (FrS.new hpt).trans (FrS.new hpe)
  have hDn := fn _ _ List.not_mem_nil hDx
  have tl : Tup _ (upd (upd (upd Hx pt (.tup [.int (i : Nat), .ref u])) pe (.tup [.int (i : Nat), .ref bd, .ref z.2])) Du (.lst (cs.map V.ref ++ [V.ref pe]))) := Tup.lst hDn
  have tn := (Tup.of0 fn).trans tl
  refine ⟨_, hDn, zp9 (by rw [lqm]; omega), _, _, cs ++ [pe], rfl, (fr.trans fn).put hDu, by rw [zb1, List.map_append]; rfl, ?_⟩
  rw [List.take_add_one, hzi]
  exact (hC.ckeep tn).snoc ⟨bd, tl _ _ zb1, .inl ((tpx.trans tn) _ _ u2)⟩
 ·rintro σ H7 ⟨_, _, cs, rfl, f7, hD7, hC7⟩
  rw [lqm, hpl] at hC7
  rw [List.take_of_length_le (by rw [List.length_zipIdx]; exact Nat.le_refl _)] at hC7
  exact q Du cs H7 (f6.trans f7) (yg8 f6 hDu) hD7 hC7
end
end Gn
end
section
namespace L2
open PySem PySem.Spec PyProof.Rows
section
variable {X : Cx}
def rIsT (K : PySem.W.Frag) : List V -> Hp -> VK -> Prop := fun xs H Q => ∃ a ys, xs = [.ref a, .ty "tuple"] /\ SqT K H a ys /\ Q (.bl true) H
theorem yr3 : CallR X (.builtin "isinstance") (rIsT X.K) := by
 intro pins s σ H xs us Q I r h
 obtain ⟨a, ys, rfl, hq, q⟩ := h
 cases r with
 | cons r1 rr =>
  cases rr with
  | cons r2 rr =>
   cases rr
   cases (show _ = Value.type "tuple" from r2)
   obtain ⟨its, rv, ht, hz⟩ := I.tuple hq
   cases r1
   obtain ⟨o, h1, h2, _⟩ := ht
   exact PySem.W.kia_one PySem.W.kitx_tuple I.kIn ⟨o, h1, h2⟩ (show PySem.W.kitOne X.K (.type "tuple") (.type "tuple") = some true from rfl) (fun z => nomatch z) fun tk => ⟨.bl true, H, I.tok _, rfl, q⟩
end
theorem FnOk.or {P : Program} {w : World} {K : PySem.W.Frag} {mg : Str -> Option Value} {base : Heap} {CX : CXT} {k : Nat} {f : Addr} {fd : FuncData} {ps : List Str} {sp sp' : Sp} (F : FnOk P w K mg base CX k f fd ps sp) (G : FnOk P w K mg base CX k f fd ps sp') :
  FnOk P w K mg base CX k f fd ps (fun vs H Q E => sp vs H Q E ∨ sp' vs H Q E) :=
 ⟨fun vs H Q E h => h.elim (F.len vs H Q E) (G.len vs H Q E), fun A outer s H args us vs Q E hr h1 h2 h3 h => h.elim (F.run A outer s H args us vs Q E hr h1 h2 h3) (G.run A outer s H args us vs Q E hr h1 h2 h3)⟩
end L2
namespace Gn
open PySem L2
abbrev yh4 : Stmt := top 39
theorem _root_.L2.TQ.keep {K : PySem.W.Frag} {H H' : Hp} {a : Addr} {xs : List V} (h : TQ K H a xs) (f : Tup H H') : TQ K H' a xs := h.imp (f _ _) id
theorem _root_.L2.Sm.keep {K : PySem.W.Frag} {H H' : Hp} (f : Tup H H') : ∀ {n : Nat} {x y : V}, Sm K H n x y -> Sm K H' n x y
 | 0, _, _, h => h
 | n + 1, x, y, h => by
  rcases h with h | ⟨a, b, xs, ys, h1, h2, h3, h4, h5, h6⟩
  ·exact .inl h
  ·exact .inr ⟨a, b, xs, ys, h1, h2, h3.keep f, h4.keep f, h5.imp fun _ _ g => L2.Sm.keep f g, h6⟩
inductive SpSm (K : PySem.W.Frag) (n : Nat) (vs : List V) (H : Hp) (Q : VK) : Prop
 | mk (x y : V) (h1 : vs = [x, y]) (h2 : Sm K H n x y) (h3 : ∀ H', FrS [] H H' -> Q (.bl true) H') : SpSm K n vs H Q
def spSm (K : PySem.W.Frag) (n : Nat) : Sp := fun vs H Q _ => SpSm K n vs H Q
inductive SpSmT (K : PySem.W.Frag) (n : Nat) (vs : List V) (H : Hp) (Q : VK) : Prop
 | mk (x y : V) (h1 : vs = [x, y]) (h2 : SmT K H (Sm K H n) x y) (h3 : ∀ H', FrS [] H H' -> Q (.bl true) H') : SpSmT K n vs H Q
def spSmT (K : PySem.W.Frag) (n : Nat) : Sp := fun vs H Q _ => SpSmT K n vs H Q
inductive SmI (H : Hp) (D : Addr) (i : Nat) (σ : St) (Hx : Hp) : Prop
 | mk (x y : Option V) (hσ : σ = [x, y]) (fr : FrS [] H Hx) (hD : Hx D = some (.lst ((List.replicate i true).map V.bl))) : SmI H D i σ Hx
section
variable {P : Program} {w : World} {K : PySem.W.Frag} {mg : Str -> Option Value} {base : Heap} {f : Addr} {fd : FuncData}
theorem kit_st : PySem.W.kitOne K (.type "str") (.type "tuple") = some false := by first | rfl | decide +kernel
theorem xs0 : PySem.W.kitOne K (.type "str") (.type "str") = some true := rfl
theorem kit_it : PySem.W.kitOne K (.type "int") (.type "tuple") = some false := by first | rfl | decide +kernel
theorem kit_ib : PySem.W.kitOne K (.type "int") (.type "bool") = some false := by first | rfl | decide +kernel
theorem xz7 : PySem.W.kitOne K (.type "int") (.type "str") = some false := by first | rfl | decide +kernel
theorem kit_ii : PySem.W.kitOne K (.type "int") (.type "int") = some true := rfl
abbrev yf2 : List Str := ["_law_found", "_law_due_here"]
theorem xr9 : zd3 yf2 yf2 (zb7 yh4) := ⟨rfl, rfl, rfl, by decide +kernel, rfl, by decide +kernel, by decide +kernel⟩
theorem ys1 {k : Nat} (F : Fun K "_law_same" "_law_same" yh4 f fd) (mi : mg "isinstance" = none) (mt : mg "tuple" = none) (mb : mg "bool" = none) (ms : mg "str" = none) (mn : mg "int" = none) : FnOk P w K mg base CX0 (k + 1) f fd yf2 (spSm K 0) := by
 refine F.ok xr9 (fun vs H Q E h => ?_) (fun cdv A outer s H vs Q E hr h => ?_)
 ·obtain ⟨x, y, rfl, _⟩ := h
  rfl
 refine ⟨_, zb3 (zh9 (zt6 (zd6 zk4 rfl mi (by decide +kernel) (zb0 (pv 1) (zb0 (zq0 (v := .ty "tuple") rfl mt (by decide +kernel) rfl) zb2)))) zr3 zd9)
  (zb3 (zh9 (zt7 (ys4 (pv 1))) zr3 zd9)
  (zb3 (zh9 (zt6 (zd6 zk4 rfl mi (by decide +kernel) (zb0 (pv 1) (zb0 (zq0 (v := .ty "str") rfl ms (by decide +kernel) rfl) zb2))))
   (zb9 (zd4 (yt3 (zd6 zk4 rfl mi (by decide +kernel) (zb0 (pv 0) (zb0 (zq0 (v := .ty "str") rfl ms (by decide +kernel) rfl) zb2))) (xg7 (zn2 zp1 (pv 0) (pv 1) (zd8 _)))))) zd9)
  (zb9 (zd4 (yt3 (zd6 zk4 rfl mi (by decide +kernel) (zb0 (pv 0) (zb0 (zq0 (v := .ty "int") rfl mn (by decide +kernel) rfl) zb2)))
   (yt3 (xv0 (zd6 zk4 rfl mi (by decide +kernel) (zb0 (pv 0) (zb0 (zq0 (v := .ty "bool") rfl mb (by decide +kernel) rfl) zb2)))) (xg7 (zn2 zp1 (pv 0) (pv 1) (zd8 _))))))))), ?_⟩
 first | dsimp only [cxOf, Cx.nox] | skip
 obtain ⟨x, y, rfl, h, q0⟩ := h
 have q := q0 H FrS.refl
 rcases h with ⟨z, rfl, rfl⟩ | ⟨z, rfl, rfl⟩
 ·refine ⟨_, rfl, _, _, _, false, rfl, .str z, kit_st, _, rfl, ?_⟩
  refine ⟨_, rfl, _, rfl, ?_⟩
  refine ⟨_, rfl, _, _, _, true, rfl, .str z, xs0, _, rfl, ?_⟩
  refine ⟨_, rfl, _, _, _, true, rfl, .str z, xs0, _, rfl, ?_⟩
  refine ⟨_, rfl, _, rfl, rfl, ?_⟩
  show Q (.bl (decide (V.str z = V.str z))) H
  rw [decide_eq_true rfl]
  exact q
 ·refine ⟨_, rfl, _, _, _, false, rfl, .int z, kit_it, _, rfl, ?_⟩
  refine ⟨_, rfl, _, rfl, ?_⟩
  refine ⟨_, rfl, _, _, _, false, rfl, .int z, xz7, _, rfl, ?_⟩
  refine ⟨_, rfl, _, _, _, true, rfl, .int z, kit_ii, _, rfl, ?_⟩
  refine ⟨_, rfl, _, _, _, false, rfl, .int z, kit_ib, _, rfl, _, rfl, ?_⟩
  refine ⟨_, rfl, _, rfl, rfl, ?_⟩
  show Q (.bl (decide (V.int z = V.int z))) H
  rw [decide_eq_true rfl]
  exact q
theorem xn0 {k n : Nat} (F : Fun K "_law_same" "_law_same" yh4 f fd) (T : Cal P w K mg base k "_law_same" yf2 (spSm K n)) (mi : mg "isinstance" = none) (mt : mg "tuple" = none) (ml : mg "len" = none) (mall : mg "all" = none) (mz : mg "zip" = none) : FnOk P w K mg base CX0 (k + 1) f fd yf2 (spSmT K n) := by
 obtain ⟨g, gd, GT, bT, kT, mT⟩ := T.ex
 refine F.ok xr9 (fun vs H Q E h => ?_) (fun cdv A outer s H vs Q E hr h => ?_)
 ·obtain ⟨x, y, rfl, _⟩ := h
  rfl
 obtain ⟨_, _, rfl, ⟨a, b, xs, ys, rfl, rfl, ha, hb, hA, hl⟩, q⟩ := h
 have nd2 : (["_law_one", "_law_other"] : List Str).Nodup := by decide +kernel
 refine ⟨_, zb3 (zh9 (zt6 (zd6 yr3 rfl mi (by decide +kernel) (zb0 (pv 1) (zb0 (zq0 (v := .ty "tuple") rfl mt (by decide +kernel) rfl) zb2))))
   (zb3 (zh9 (PW.pt (yn2 (xt5 (zt6 (zd6 yr3 rfl mi (by decide +kernel) (zb0 (pv 0) (zb0 (zq0 (v := .ty "tuple") rfl mt (by decide +kernel) rfl) zb2))))) (zx9 (zc7 op_ne (zd6 zf4 rfl ml PySem.boot_len (zb0 (pv 0) zb2)) (zd6 zf4 rfl ml PySem.boot_len (zb0 (pv 1) zb2)) (zd8 _))))) zr3 zd9)
   (zb9 (zd4 (zd6 (xp4 rfl) rfl mall (by decide +kernel) (zb0 (zh8 (N' := ["_law_one", "_law_other"]) (src := [none, none]) rfl ⟨rfl, by decide +kernel, by decide +kernel, rfl, rfl, rfl⟩
     (pi_zip (p := true) rfl mz (zb0 (pv 0) (zb0 (pv 1) zb2)))
     (g := gTup K 2 (zk1 (zf8 0) (zk1 (zf8 1) gNil))) (fun _ _ _ _ => zh4 (n := 2) rfl (zc1 (zc0 (i := 0) nd2 rfl (Or.inl rfl) (Or.inr rfl)) (zc1 (zc0 (i := 1) nd2 rfl (Or.inl rfl) (Or.inr rfl)) zg4)))
     (fun _ _ _ _ => zh3) (te := zm2 (spSm K n) [] E0 (zc4 (tVar 0) (zc4 (tVar 1) tNil))) (fun _ _ _ _ => zb8 GT hr rfl mT kT bT .nil zc6 (zb0 (pv 0) (zb0 (pv 1) zb2)))) zb2))))) zd9) zr3, ?_⟩
 first | dsimp only [cxOf, Cx.nox] | skip
 have hlen := hA.len
 refine ⟨_, rfl, b, ys, rfl, hb.sq, _, rfl, ?_⟩
 refine ⟨_, rfl, a, xs, rfl, ha.sq, _, rfl, ?_⟩
 refine ⟨_, rfl, a, _, rfl, .inr ha.sq, _, rfl, b, _, rfl, .inr hb.sq, rfl, _, rfl, ?_⟩
 show if (!decide (V.int (xs.length : Nat) = V.int (ys.length : Nat))) = true then _ else _
 rw [if_neg (by rw [hlen]; simp)]
 refine ⟨_, rfl, _, rfl, a, b, _, _, rfl, ha.sq, hb.sq, fun D hD => ?_⟩
 refine ⟨fun i m σ Hx => m = xs.length - i /\ i <= xs.length /\ SmI H D i σ Hx, ⟨_, rfl, Nat.zero_le _, _, _, rfl, (FrS.refl).put hD, zb1⟩, ?_⟩
 rintro i m σ Hx ⟨rfl, hi, ⟨x0, y0, rfl, fr, hDx⟩⟩
 have hax : SqT K Hx a xs := (ha.keep (Tup.of0 fr)).sq
 have hbx : SqT K Hx b ys := (hb.keep (Tup.of0 fr)).sq
 by_cases hlt : i < xs.length
 ·have hv : xs[i]? = some xs[i] := List.getElem?_eq_getElem hlt
  obtain ⟨y', hy', hS⟩ := hA.get hv
  refine .inr ⟨⟨_, _, _, _, hax, hbx, hv, hy'⟩, SmI H D (i + 1), fun σ' H' h => ⟨_, by omega, rfl, hlt, h⟩, fun v H' yl => ?_⟩
  obtain ⟨T, x, y, hT, rfl, rfl, y1, y2⟩ := yl
  have e1 := y1 _ hax
  rw [hv] at e1
  have e2 := y2 _ hbx
  rw [hy'] at e2
  have e1' : xs[i] = x := Option.some.inj e1
  have e2' : y' = y := Option.some.inj e2
  subst e2'
  rw [e1'] at hS
  have hDT : D ≠ T := zb4 hDx hT
  refine ⟨T, _, rfl, SqT.of zb1, rfl, _, _, rfl, _, _, rfl, rfl, ?_⟩
  refine ⟨_, rfl, _, rfl, x, y', rfl, hS.keep ((Tup.of0 fr).trans (Tup.new hT)), fun Hz fz => ⟨_, fz _ _ List.not_mem_nil (by rw [zb5 hDT]; exact hDx), ?_, ⟨_, _, rfl, ((fr.trans (FrS.new hT)).trans fz).put hD, ?_⟩⟩⟩
  ·rw [lqm, List.length_replicate]; exact zp9 (by omega)
  ·rw [zb1, List.replicate_succ', List.map_append]
   rfl
 ·refine .inl ⟨⟨_, _, hax, hbx, .inl (by omega)⟩, D, List.replicate i true, rfl, SqL.of hDx, ?_⟩
  have e2 : (List.replicate i true).all id = true := by rw [List.all_eq_true]; intro x hx; exact (List.mem_replicate.mp hx).2
  rw [e2]
  exact q Hx fr
theorem ok_sm {k n : Nat} (F : Fun K "_law_same" "_law_same" yh4 f fd) (T : Cal P w K mg base k "_law_same" yf2 (spSm K n)) (mi : mg "isinstance" = none) (mt : mg "tuple" = none) (mb : mg "bool" = none) (ms : mg "str" = none) (mn : mg "int" = none) (ml : mg "len" = none) (mall : mg "all" = none) (mz : mg "zip" = none) : FnOk P w K mg base CX0 (k + 1) f fd yf2 (spSm K (n + 1)) :=
 ((ys1 (k := k) F mi mt mb ms mn).or (xn0 F T mi mt ml mall mz)).imp fun vs H Q E h => by
  obtain ⟨x, y, h1, h2, h3⟩ := h
  rcases h2 with h2 | h2
  ·exact .inl ⟨x, y, h1, h2, h3⟩
  ·exact .inr ⟨x, y, h1, h2, h3⟩
end
end Gn
end
section
namespace Gn
open PySem L2
abbrev sDue : Stmt := top 40
def leS (a b : Str) : Prop := a.cps.toList <= b.cps.toList
theorem leS_of {a b : Str} (h : (!PySem.Spec.ltCps b.cps.toList a.cps.toList) = true) : leS a b := by
 rw [PyProof.Rows.ltCps_eq] at h
 unfold leS
 exact List.not_lt.mp (by simpa using h)
theorem xh3 {a b c : Str} (h : leS a b) (g : leS b c) : leS a c := List.le_trans h g
theorem xp1 {a b : Str} (h : leS a b) (g : leS b a) : a = b := by
 have e := List.le_antisymm h g
 cases a with | mk x => cases b with | mk y => exact congrArg Str.mk (Array.toList_inj.mp e)
theorem yg9 : ∀ {l : List Str} {p : Str}, PyProof.Rows.risingS p l = true -> (p :: l).Pairwise leS
 | [], _, _ => List.pairwise_singleton _ _
 | x :: r, p, h => by
  unfold PyProof.Rows.risingS at h
  rw [Bool.and_eq_true] at h
  have h1 := leS_of h.1
  have h2 := yg9 h.2
  refine List.Pairwise.cons (fun y hy => ?_) h2
  rcases List.mem_cons.mp hy with rfl | hy
  ·exact h1
  ·exact xh3 h1 ((List.pairwise_cons.mp h2).1 y hy)
theorem yh6 {l : List Str} (h : PyProof.Rows.sortedS l = true) : l.Pairwise leS := by
 cases l with
 | nil => exact .nil
 | cons x r => exact yg9 h
theorem xb7 {l l' : List Str} (h : l.Pairwise leS) (h' : PyProof.Rows.sortedS l' = true) (hp : l'.Perm l) : l' = l :=
 List.Perm.eq_of_pairwise (fun _ _ _ _ a b => xp1 a b) (yh6 h') h hp
inductive SpDue (vs : List V) (H : Hp) (Q : VK) : Prop
 | mk (p a : Addr) (ks : List (Str × List Dz)) (m0 : Dz) (tr : Tr) (ss : List Str) (h1 : vs = [.ref p, .ref a]) (h2 : ProgIs H p ks m0) (h3 : KindsAt H p tr) (h4 : TrOk tr) (h5 : tr.length <= 12)
  (h8 : H a = some (.tup (ss.map V.str))) (h9 : ∀ x ∈ ss, ∃ l, Up tr x l) (h10 : ss.length <= 12) (hs : PyProof.Rows.sortedS ss = true)
  (h11 : ∀ (b : Addr) (es : List Addr) (H' : Hp), FrS [] H H' -> H' b = some (.tup (es.map V.ref)) -> A2 (ToIs H') es (toldL H tr ss (okB ss) (zf9 (zf1 ks m0))) -> Q (.ref b) H') : SpDue vs H Q
def wb7 : Sp := fun vs H Q _ => SpDue vs H Q
inductive DuI (H H1 : Hp) (p a fl : Addr) (QL : List (Fz × Nat)) (F : Fz × Nat -> Nat × List Str) (i : Nat) (σ : St) (Hx : Hp) : Prop
 | mk (x3 x4 x5 x6 : Option V) (es : List Addr) (hσ : σ = [some (.ref p), some (.ref a), some (.ref fl), x3, x4, x5, x6]) (fr : FrS [] H Hx) (fr1 : FrS [fl] H1 Hx) (hf : Hx fl = some (.lst (es.map V.ref))) (hE : A2 (ToIs Hx) es (((QL.take i).filter (sel H)).map F)) : DuI H H1 p a fl QL F i σ Hx
inductive DcI (H1 : Hp) (p Dl ra : Addr) (o : Str) (tr : Tr) (ss : List Str) (i : Nat) (σ : St) (Hx : Hp) : Prop
 | mk (x : Option V) (hσ : σ = [x, some (.ref ra), some (.ref p)]) (fr : FrS [] H1 Hx) (hD : Hx Dl = some (.lst (((ss.take i).filter (below tr o)).map V.str))) : DcI H1 p Dl ra o tr ss i σ Hx
section
variable {P : Program} {w : World} {K : PySem.W.Frag} {mg : Str -> Option Value} {base : Heap} {f : Addr} {fd : FuncData}
abbrev pDue : List Str := ["_law_program_here", "_law_there_here"]
theorem yn7 : zd3 ["_law_program_here", "_law_there_here", "_law_found", "_law_number", "_law_body", "_law_row_here", "_law_kinds"] pDue (zb7 sDue) := ⟨rfl, rfl, rfl, by decide +kernel, rfl, by decide +kernel, by decide +kernel⟩
set_option maxHeartbeats 8000000 in
theorem ok_due {k : Nat} (F : Fun K "_law_due" "_law_due" sDue f fd) (NU : Cal P w K mg base k "_law_numbered" ["_law_program_here"] (xc6 K)) (UP : Cal P w K mg base k "_law_up" pUp spUp) (mtu : mg "tuple" = none) (mso : mg "sorted" = none) : FnOk P w K mg base CX0 (k + 1) f fd pDue wb7 := by
 obtain ⟨g, gd, GN, bN, kN, mN⟩ := NU.ex
 obtain ⟨g2, gd2, GU, bU, kU, mU⟩ := UP.ex
 refine F.ok yn7 (fun vs H Q E h => ?_) (fun cdv A outer s H vs Q E hr h => ?_)
 ·obtain ⟨p, a, ks, m0, tr, ss, rfl, _⟩ := h
  rfl
 obtain ⟨p, a, ks, m0, tr, ss, rfl, hP, hK, hT, h12, ha, hU, hl, hso, q⟩ := h
 have hu := zm7 hr
 have hu' := Nat.lt_of_succ_lt hu
 have nd3 : (["_law_kind", "_law_row_here", "_law_program_here"] : List Str).Nodup := by decide +kernel
 refine ⟨_, zb3 (zc3 (i := 2) yn7.nd rfl (Or.inl rfl) (zd7 zb2))
  (zb3 (zg6 PassesOwn.never rfl (zh0 (zb8 GN hr rfl mN kN bN .nil zc6 (zb0 (pv 0) zb2))) (zh4 (n := 3) rfl (zc1 (zc0 (i := 3) yn7.nd rfl (Or.inl rfl)) (zc1 (zc0 (i := 4) yn7.nd rfl (Or.inl rfl)) (zc1 (zc0 (i := 5) yn7.nd rfl (Or.inr rfl)) zg4))))
   (zb9 (zh9 (zc7 zp1 (eT (pv 5) zb6) zd5 (zd8 _))
    (zb3 (zc3 (i := 6) yn7.nd rfl (Or.inl rfl) (zd6 zk0 rfl mso (by decide +kernel) (zb0 (zh8 (N' := ["_law_kind", "_law_row_here", "_law_program_here"]) (src := [none, some 5, some 0]) rfl ⟨rfl, by decide +kernel, by decide +kernel, rfl, rfl, rfl⟩ (zj9 (pv 1))
      (g := zf8 0) (fun _ _ _ _ => zc0 (i := 0) nd3 rfl (Or.inl rfl) (Or.inr rfl))
      (tt := zm4 (tOp (rIn K false) (tOp (rIxT K) (tVar 1) (tC (.int 3))) (zm2 spUp [] E0 (zc4 (tVar 2) (zc4 (tVar 0) tNil)))))
      (fun _ _ _ _ => zm5 (zc7 (show OpR _ _ (rIn K false) from zg9) (zw0 (show IxR _ (rIxT K) from zs9) (pv 1) zb6 (fun _ _ => rfl)) (zb8 GU hr rfl mU kU bU .nil zc6 (zb0 (pv 2) (zb0 (pv 0) zb2))) rfl)) (fun _ _ _ _ => pv 0)) zb2)))
    (zb3 (zh9 (PW.pt (zn4 (zc7 (op_neS hu') (pv 4) (zf6 (yh9 (yh9 zb2))) (zd8 _)) (zk9 (zc7 zp3 (eT (pv 4) zb6) (pv 1) rfl)))) (zb9 (zc3 (i := 6) yn7.nd rfl (Or.inl rfl) (zd7 zb2))) zd9)
    (zb9 (zg2 (zk6 PySem.F.plainAttrs_list PySem.F.slot_list_append PySem.F.type_list_append zf0 (pv 2) (zb0 (zf6 (zb0 (pv 3) (zb0 (zd1 zc8 rfl mtu (by decide +kernel) (zb0 (pv 6) zb2)) zb2))) zb2)))))) zd9)))
  (zb9 (zd4 (zd1 zc8 rfl mtu (by decide +kernel) (zb0 (pv 2) zb2))))), ?_⟩
 first | dsimp only [cxOf, Cx.nox] | skip
 have s2 : 2 <= sizeLine := Nat.le_of_lt (zc2 (by decide))
 refine ⟨Nat.zero_le _, fun fl hfl => ?_⟩
 have f0 : FrS [] H (upd H fl (.lst [])) := FrS.new hfl
 refine ⟨_, rfl, p, ks, m0, rfl, hP.keep (Tup.of0 f0), fun b ns H1 f1 hbn hb hA => ⟨b, rfl, ⟨_, SqL.of hb⟩, ?_⟩⟩
 have hf1 := f1 _ _ List.not_mem_nil zb1
 have fr1 := f0.trans f1
 have hI := zp5 hP.rows
 have hlen := zj2 hP.rows
 have hmany := hP.many
 have hAl := hA.len
 rw [List.length_zipIdx] at hAl
 have hbf : b ≠ fl := fun z => by rw [z, zb1] at hbn; cases hbn
 have mem : ∀ q ∈ (zf9 (zf1 ks m0)).zipIdx 0, q.1 ∈ zf9 (zf1 ks m0) := fun q hq => by
  obtain ⟨j, hj⟩ := List.mem_iff_getElem?.mp hq
  rw [List.getElem?_zipIdx] at hj
  obtain ⟨y, hy, rfl⟩ := Option.map_eq_some_iff.mp hj
  exact List.mem_of_getElem? hy
 unfold toldL at q
 refine zn1 (xs := ns.map V.ref) (DuI H H1 p a fl ((zf9 (zf1 ks m0)).zipIdx 0) (toldF H tr ss (okB ss))) ⟨_, _, _, _, [], rfl, fr1, FrS.refl, hf1, .nil⟩ ?_ ?_ ?_
 ·rintro i σ Hx hi ⟨_, _, _, _, _, _, _, fx, _⟩
  exact SqL.of (fx _ _ (by simpa using hbf) hb)
 ·rintro i x σ Hx hx ⟨x3, x4, x5, x6, es, rfl, fr, fx, hfx, hE⟩
  rw [List.getElem?_map, Option.map_eq_some_iff] at hx
  obtain ⟨u, hu2, rfl⟩ := hx
  obtain ⟨z, hz, bd, u1, u2⟩ := hA.get hu2
  obtain ⟨w, rest, hw, hcall⟩ := hI z.1 (mem z (List.mem_of_getElem? hz))
  have tp := fx.tup1 hf1
  have tHx : Tup H Hx := Tup.of0 fr
  have es' : sel H z = decide (w = "call") := yj0 hw
  have hel : es.length <= 80000 := by
   have h1 := hE.len
   have h2 := List.length_filter_le (sel H) (((zf9 (zf1 ks m0)).zipIdx 0).take i)
   rw [lqm] at h1
   rw [List.length_take, List.length_zipIdx] at h2
   omega
  have eF : ((((zf9 (zf1 ks m0)).zipIdx 0).take (i + 1)).filter (sel H)).map (toldF H tr ss (okB ss)) = ((((zf9 (zf1 ks m0)).zipIdx 0).take i).filter (sel H)).map (toldF H tr ss (okB ss)) ++ ([z].filter (sel H)).map (toldF H tr ss (okB ss)) := by
   rw [List.take_add_one, hz, List.filter_append, List.map_append]; rfl
  refine ⟨u, _, rfl, SqT.of (tp _ _ u1), rfl, _, _, rfl, _, _, rfl, _, _, rfl, rfl, ?_⟩
  refine ⟨_, rfl, z.1.2, _, _, .str w, rfl, rfl, SqT.of (tHx _ _ hw), yw4 _ _, rfl, _, rfl, ?_⟩
  refine ite2 (fun c => ?_) (fun c => ?_)
  rotate_left
  ·have c' : w ≠ "call" := fun z => c (decide_eq_true (by rw [z]))
   refine ⟨_, _, _, _, es, rfl, fr, fx, hfx, ?_⟩
   rw [eF, List.filter_cons_of_neg (by rw [es']; simpa using c'), List.filter_nil, List.map_nil, List.append_nil]
   exact hE
  have c' : w = "call" := V.str.inj (of_decide_eq_true c)
  obtain ⟨cx, cy, ck, cd, cg, css, hrow, _, _⟩ := hcall c'
  have hlT : (toldF H tr ss (okB ss) z).2.length <= 64 := by
   unfold toldF
   show (if _ then _ else _ : List Str).length <= 64
   split
   ·exact Nat.le_trans (List.length_filter_le _ _) (by omega)
   ·exact Nat.zero_le _
  have tail : ∀ (D : Ends) (kl : Addr) (Hy : Hp), D.nx = DuI H H1 p a fl ((zf9 (zf1 ks m0)).zipIdx 0) (toldF H tr ss (okB ss)) (i + 1) -> FrS [] Hx Hy -> Hy kl = some (.lst ((toldF H tr ss (okB ss) z).2.map V.str)) ->
    yv4 (tBM K "list" zq1 (tVar 2) (zc4 (tTup (zc4 (tVar 3) (zc4 (tCB (fun xs H Q => ∃ p ys, xs = [.ref p] /\ ((SqL K H p ys /\ ∀ l, H l = none -> Q (.ref l) (upd H l (.tup ys))) ∨ (SqT K H p ys /\ Q (.ref p) H))) (zc4 (tVar 6) tNil)) tNil))) tNil)) D [some (.ref p), some (.ref a), some (.ref fl), some (.int (z.2 : Int)), some (.ref bd), some (.ref z.1.2), some (.ref kl)] Hy := by
   intro D kl Hy hD fy hkl
   have hfy := fy _ _ List.not_mem_nil hfx
   refine ⟨_, rfl, .inl ⟨rfl, _, SqL.of hfy⟩, _, rfl, _, rfl, kl, _, rfl, .inl ⟨SqL.of hkl, fun tt htt => ⟨s2, fun te hte => ?_⟩⟩⟩
   have fn : FrS [] Hy (upd (upd Hy tt (.tup ((toldF H tr ss (okB ss) z).2.map V.str))) te (.tup [.int (z.2 : Int), .ref tt])) := (FrS.new htt).trans (FrS.new hte)
   have hfn := fn _ _ List.not_mem_nil hfy
   have tlt : Tup _ (upd (upd (upd Hy tt (.tup ((toldF H tr ss (okB ss) z).2.map V.str))) te (.tup [.int (z.2 : Int), .ref tt])) fl (.lst (es.map V.ref ++ [V.ref te]))) := Tup.lst hfn
   have tn := (Tup.of0 (fy.trans fn)).trans tlt
   refine ⟨fl, _, _, rfl, rfl, hfn, zp9 (by rw [lqm]; omega), ?_⟩
   rw [hD]
   refine ⟨_, _, _, _, es ++ [te], rfl, ((fr.trans fy).trans fn).put hfl, ((fx.trans (fy.mono (fun _ h => absurd h List.not_mem_nil))).trans (fn.mono (fun _ h => absurd h List.not_mem_nil))).put' (.head _), by rw [zb1, List.map_append]; rfl, ?_⟩
   rw [eF, List.filter_cons_of_pos (by rw [es']; exact decide_eq_true c'), List.filter_nil]
   exact (hE.tkeep tn).snoc ⟨tt, tlt _ _ zb1, ((Tup.new hte).trans tlt) _ _ zb1, hlT⟩
  refine ⟨_, rfl, a, rfl, ⟨_, SqT.of (tHx _ _ ha)⟩, fun Dl hDl => ?_⟩
  refine zm3 (xs := ss.map V.str) (DcI Hx p Dl z.1.2 ck tr ss) ⟨_, rfl, (FrS.refl).put hDl, zb1⟩ ?_ ?_ ?_
  ·rintro j σ Hy hj ⟨_, _, fy, _⟩
   exact SqT.of (fy _ _ List.not_mem_nil (tHx _ _ ha))
  ·rintro j x σ Hy hx ⟨x0, rfl, fy, hDy⟩
   rw [List.getElem?_map, Option.map_eq_some_iff] at hx
   obtain ⟨y, hy, rfl⟩ := hx
   obtain ⟨l, hup⟩ := hU y (List.mem_of_getElem? hy)
   have tHy := tHx.trans (Tup.of0 fy)
   have eF2 : (ss.take (j + 1)).filter (below tr ck) = (ss.take j).filter (below tr ck) ++ [y].filter (below tr ck) := by
    rw [List.take_add_one, hy, List.filter_append]; rfl
   have hfl2 : ((ss.take j).filter (below tr ck)).length <= 64 := by
    have h2 := List.length_filter_le (below tr ck) (ss.take j)
    rw [List.length_take] at h2
    omega
   refine ⟨_, rfl, z.1.2, _, _, _, rfl, rfl, SqT.of (tHy _ _ hrow), rfl, _, rfl, _, rfl, p, y, tr, l, rfl, hK.keepT tHy, hT, h12, hup, fun la Hz fz hla => ⟨la, _, rfl, .inl (SqL.of hla), rfl, zg7 _, _, rfl, ?_⟩⟩
   have hDz := fz _ _ List.not_mem_nil hDy
   show if inV (.str ck) (l.map V.str) = true then _ else _
   rw [zn0, yq6 hT hup]
   refine ite2 (fun c => ?_) (fun c => ?_)
   ·refine ⟨_, rfl, _, hDz, zc2 (by rw [lqm]; omega), _, rfl, (fy.trans fz).put hDl, ?_⟩
    rw [zb1, eF2, List.filter_cons_of_pos c, List.filter_nil, List.map_append]; rfl
   ·refine ⟨_, rfl, fy.trans fz, ?_⟩
    rw [eF2, List.filter_cons_of_neg c, List.filter_nil, List.append_nil]
    exact hDz
  rintro σ Hy ⟨x0, rfl, fy, hDy⟩
  rw [lqm, List.take_of_length_le (Nat.le_refl _)] at hDy
  have hfl3 := List.length_filter_le (below tr ck) ss
  refine ⟨Dl, _, rfl, SqL.of hDy, by omega, fun sl ss' hsl hperm hso' => ?_⟩
  have hss : ss' = ss.filter (below tr ck) := xb7 ((yh6 hso).filter _) hso' hperm
  subst hss
  have f4 : FrS [] Hx (upd Hy sl (.lst ((ss.filter (below tr ck)).map V.str))) := fy.trans (FrS.new hsl)
  have hsl4 : upd Hy sl (.lst ((ss.filter (below tr ck)).map V.str)) sl = some (.lst ((ss.filter (below tr ck)).map V.str)) := zb1
  generalize upd Hy sl (.lst ((ss.filter (below tr ck)).map V.str)) = H4 at f4 hsl4
  have hbd := (u2.keep (tp.trans (Tup.of0 f4)))
  have yes : okB ss z.1.1 = true -> (toldF H tr ss (okB ss) z).2 = ss.filter (below tr ck) := fun h => by
   unfold toldF
   rw [if_pos h, yr4 hrow]
  have no : okB ss z.1.1 ≠ true -> (toldF H tr ss (okB ss) z).2 = [] := fun h => by
   unfold toldF
   rw [if_neg h]
  refine ⟨_, rfl, s2, fun pd hpd => ?_⟩
  have f5 : FrS [] Hx (upd H4 pd (.tup [.str "", .str ""])) := f4.trans (FrS.new hpd)
  have hsl5 := (FrS.new (S := []) (o := .tup [.str "", .str ""]) hpd) _ _ List.not_mem_nil hsl4
  have hbd5 := (hbd.keep (Tup.new (o := .tup [.str "", .str ""]) hpd)).sq
  refine ⟨bd, pd, [z.1.1.1, z.1.1.2], ["", ""], rfl, rfl, hbd5, SqT.of zb1, _, rfl, ?_⟩
  generalize upd H4 pd (.tup [.str "", .str ""]) = H5 at f5 hsl5 hbd5
  refine ite2 (fun c2 => ?_) (fun c2 => ?_)
  rotate_left
  ·have e2 : z.1.1 = (("" : Str), ("" : Str)) := by
    have h : [z.1.1.1, z.1.1.2] = [("" : Str), ("" : Str)] := by simpa using c2
    injection h with h1 h2
    injection h2 with h2 _
    exact Prod.ext h1 h2
   refine tail _ sl H5 rfl f5 ?_
   rw [yes (by unfold okB; rw [decide_eq_true e2]; rfl)]
   exact hsl5
  have e2 : z.1.1 ≠ (("" : Str), ("" : Str)) := fun e => by
   rw [e] at c2
   simp at c2
  refine ⟨_, rfl, bd, _, _, .str z.1.1.1, rfl, rfl, hbd5, yw4 _ _, _, rfl, a, _, rfl, .inr (SqT.of (f5 _ _ List.not_mem_nil (tHx _ _ ha))), rfl, zg7 _, _, rfl, ?_⟩
  show if (!inV (.str z.1.1.1) (ss.map V.str)) = true then _ else _
  rw [zn0]
  refine ite2 (fun c3 => ?_) (fun c3 => ?_)
  ·have c3' : z.1.1.1 ∉ ss := by simpa using c3
   refine ⟨Nat.zero_le _, fun kl hkl => ?_⟩
   refine tail _ kl _ rfl (f5.trans (FrS.new hkl)) ?_
   rw [no (by unfold okB; rw [decide_eq_false e2, decide_eq_false c3']; decide)]
   exact zb1
  ·have c3' : z.1.1.1 ∈ ss := by simpa using c3
   refine tail _ sl H5 rfl f5 ?_
   rw [yes (by unfold okB; rw [decide_eq_true c3', Bool.or_true])]
   exact hsl5
 ·rintro σ Hx ⟨_, _, _, _, es, rfl, fr, fx, hfx, hE⟩
  have e0 : ns.length = ((zf9 (zf1 ks m0)).zipIdx 0).length := by rw [List.length_zipIdx]; exact hAl
  rw [lqm, e0, List.take_of_length_le (Nat.le_refl _)] at hE
  refine ⟨_, rfl, fl, _, rfl, .inl ⟨SqL.of hfx, fun d hd => ?_⟩⟩
  exact q d es _ (fr.trans (FrS.new hd)) zb1 (hE.tkeep (Tup.new hd))
end
end Gn
end
section
namespace Gn
open PySem L2
abbrev sLaw : Stmt := top 41
inductive SpLaw (K : PySem.W.Frag) (vs : List V) (H : Hp) (Q : VK) : Prop
 | mk (a : Addr) (ns : List Int) (h1 : vs = [.ref a]) (h2 : SqL K H a (ns.map V.int)) (h3 : ns.length <= 63) (h4 : ∀ H', Q (.bl true) H') : SpLaw K vs H Q
def xn7 (K : PySem.W.Frag) : Sp := fun vs H Q _ => SpLaw K vs H Q
theorem xf1 {K : PySem.W.Frag} {H : Hp} : ∀ ss : List Str, A2 (Sm K H 0) (ss.map V.str) (ss.map V.str)
 | [] => .nil
 | s :: ss => .cons (.inl ⟨s, rfl, rfl⟩) (xf1 ss)
theorem sm_to {K : PySem.W.Frag} {H : Hp} {e e' : Addr} {q : Nat × List Str} (h : ToIs H e q) (h' : ToIs H e' q) : Sm K H 2 (.ref e) (.ref e') := by
 obtain ⟨t, h1, h2, h3⟩ := h
 obtain ⟨t', h1', h2', _⟩ := h'
 exact .inr ⟨e, e', _, _, rfl, rfl, .inl h1, .inl h1', .cons (.inl (.inr ⟨_, rfl, rfl⟩)) (.cons (.inr ⟨t, t', _, _, rfl, rfl, .inl h2, .inl h2', xf1 q.2, by rw [lqm]; omega⟩) .nil), by show 2 <= 1000000; decide⟩
theorem xk4 {K : PySem.W.Frag} {H : Hp} {cs : List Addr} {L : List (Nat × List Str)} (h : A2 (ToIs H) cs L) : ∀ {ds : List Addr}, A2 (ToIs H) ds L -> A2 (Sm K H 2) (cs.map V.ref) (ds.map V.ref) := by
 induction h with
 | nil => intro ds h; cases h; exact .nil
 | cons h _ ih =>
  intro ds g
  cases g with
  | cons g1 g2 => exact .cons (sm_to h g1) (ih g2)
theorem xm8 {H : Hp} {tr : Tr} {ss : List Str} {B : Str × Str -> Bool} {Z : List Fz} : (toldL H tr ss B Z).length <= Z.length := by
 unfold toldL
 rw [lqm]
 have := List.length_filter_le (sel H) (Z.zipIdx 0)
 rwa [List.length_zipIdx] at this
inductive LawI (K : PySem.W.Frag) (a : Addr) (ns : List Int) (i : Nat) (σ : St) (Hx : Hp) : Prop
 | mk (x1 x2 x3 x4 x5 x6 : Option V) (h1 : σ = [some (.ref a), x1, x2, x3, x4, x5, x6]) (h2 : SqL K Hx a (ns.map V.int)) : LawI K a ns i σ Hx
inductive TuI (K : PySem.W.Frag) (H0 H1 : Hp) (a hd p : Addr) (kx : V) (t0 : Int) (i : Nat) (σ : St) (Hx : Hp) : Prop
 | mk (x4 x5 x6 : Option V) (d m t r : Int) (h1 : σ = [some (.ref a), some kx, some (.ref hd), some (.ref p), x4, x5, x6]) (kp : ∀ b o, H0 b = some o -> Hx b = some o) (tp : Tup H1 Hx) (hh : Hand Hx hd d m t r) (ht : t <= t0 + 20 * (i : Int)) : TuI K H0 H1 a hd p kx t0 i σ Hx
section
variable {P : Program} {w : World} {K : PySem.W.Frag} {mg : Str -> Option Value} {base : Heap} {f : Addr} {fd : FuncData}
theorem yn5 : zd3 ["_law_script", "_law_k", "_law_hand_here", "_law_program_here", "_law_turn", "_law_there_here", "_law_due_here"] ["_law_script"] (zb7 sLaw) := ⟨rfl, rfl, rfl, by decide +kernel, rfl, by decide +kernel, by decide +kernel⟩
set_option maxHeartbeats 8000000 in
theorem ok_law {k : Nat} (F : Fun K "law" "law" sLaw f fd) (HN : Cal P w K mg base k "_law_hand" ["_law_script", "_law_k"] (yz5 K)) (PR : Cal P w K mg base k "_law_program" ["_law_hand_here", "_law_most"] xd4) (O : Cal P w K mg base k "_law_of" ["_law_hand_here", "_law_some"] (spOf K))
  (TH : Cal P w K mg base k "_law_there" xk5 ym2) (DU : Cal P w K mg base k "_law_due" pDue wb7) (SA : Cal P w K mg base k "_law_same" yf2 (spSm K 3)) (BY : Cal P w K mg base k "by_tree" pBy spBy)
  (ml : mg "len" = none) (mr : mg "range" = none) (mx : mg "max" = none) (mn : mg "min" = none) : FnOk P w K mg base CX0 (k + 1) f fd ["_law_script"] (xn7 K) := by
 obtain ⟨g, gd, GH, bH, kH, mH⟩ := HN.ex
 obtain ⟨g2, gd2, GP, bP, kP, mP⟩ := PR.ex
 obtain ⟨g3, gd3, GO, bO, kO, mO⟩ := O.ex
 obtain ⟨g4, gd4, GT, bT, kT, mT⟩ := TH.ex
 obtain ⟨g5, gd5, GD, bD, kD, mD⟩ := DU.ex
 obtain ⟨g6, gd6, GS, bS, kS, mS⟩ := SA.ex
 obtain ⟨g7, gd7, GB, bB, kB, mB⟩ := BY.ex
 refine F.ok yn5 (fun vs H Q E h => ?_) (fun cdv A outer s H vs Q E hr h => ?_)
 ·obtain ⟨a, ns, rfl, _⟩ := h
  rfl
 obtain ⟨a, ns, rfl, hS, h63, q⟩ := h
 have hu3 : (A.deeper (PyProof.Rows.envOfC "law" (zb7 sLaw) s.heap.objs.size f cdv)).units + 2 + 1 < cLine := by have := hr.units; omega
 refine ⟨_, zb3 (zg6 PassesOwn.never rfl (zk5 rfl mr (zb0 (zd6 (xh6 rfl) rfl mx (by decide +kernel) (zb0 zb6 (zb0 (zd6 (xg4 rfl) rfl mn (by decide +kernel) (zb0 (zd6 zf4 rfl ml PySem.boot_len (zb0 (pv 0) zb2)) (zb0 zb6 zb2))) zb2))) zb2)) (zc0 (i := 1) yn5.nd rfl (Or.inl rfl))
   (zb3 (zc3 (i := 2) yn5.nd rfl (Or.inl rfl) (zb8 GH hr rfl mH kH bH .nil zc6 (zb0 (pv 0) (zb0 (pv 1) zb2))))
   (zb3 (zc3 (i := 3) yn5.nd rfl (Or.inl rfl) (zb8 GP hr rfl mP kP bP .nil zc6 (zb0 (pv 2) (zb0 (zb8 GO hr rfl mO kO bO .nil zc6 (zb0 (pv 2) (zb0 (zd7 (zf3 (zf3 (zf3 zb2)))) zb2))) zb2))))
   (zb9 (zg6 PassesOwn.never rfl (zk5 rfl mr (zb0 zb6 zb2)) (zc0 (i := 4) yn5.nd rfl (Or.inl rfl))
    (zb3 (zc3 (i := 5) yn5.nd rfl (Or.inl rfl) (zb8 GT hr rfl mT kT bT .nil zc6 (zb0 (pv 2) (zb0 (pv 3) zb2))))
    (zb3 (zc3 (i := 6) yn5.nd rfl (Or.inl rfl) (zb8 GD hr rfl mD kD bD .nil zc6 (zb0 (pv 3) (zb0 (pv 5) zb2))))
    (zb9 (zh9 (PW.pt (yn2 (xt5 (zt6 (zb8 GS hr rfl mS kS bS .nil zc6 (zb0 (zb8 GB hr rfl mB kB bB .nil zc6 (zb0 (pv 3) (zb0 (pv 5) zb2))) (zb0 (pv 6) zb2))))) (zx9 (zc7 (op_neD (n := 2) hu3) (zb8 GB hr rfl mB kB bB .nil zc6 (zb0 (pv 3) (zb0 (pv 5) zb2))) (pv 6) (zd8 _))))) (zb9 (zd4 xv6)) zd9)))))))))
  (zb9 (zd4 xv6)), ?_⟩
 first | dsimp only [cxOf, Cx.nox] | skip
 have s3 : 3 <= sizeLine := Nat.le_of_lt (zc2 (by decide))
 refine ⟨_, rfl, a, _, rfl, .inl hS, _, _, rfl, _, _, rfl, ?_⟩
 obtain ⟨nk, enk, hnk⟩ : ∃ nk : Int, (if (if (4 : Int) < (((ns.map V.int).length : Nat) : Int) then (4 : Int) else (((ns.map V.int).length : Nat) : Int)) > 1 then (if (4 : Int) < (((ns.map V.int).length : Nat) : Int) then (4 : Int) else (((ns.map V.int).length : Nat) : Int)) else 1) = nk /\ nk <= 4 /\ 1 <= nk := by
  refine ⟨_, rfl, ?_, ?_⟩
  ·split <;> (try split) <;> omega
  ·split <;> (try split) <;> omega
 rw [enk]
 refine ⟨nk, rfl, by omega, by omega, ?_⟩
 refine zn7 (lo := 0) (n := nk.toNat) (LawI K a ns) ⟨_, _, _, _, _, _, rfl, hS⟩ ?_ (fun σ Hx _ => q Hx)
 rintro i σ Hx hi ⟨x1, x2, x3, x4, x5, x6, rfl, hSx⟩
 refine ⟨_, rfl, _, rfl, a, ns, i, by rw [Int.zero_add]; rfl, hSx, h63, by omega, fun hd d m hhd hok => ?_⟩
 generalize V.int (0 + (i : Nat)) = kx'
 have hh0 : Hand (upd Hx hd (hl d m 0 0)) hd d m 0 0 := Hand.at hok
 refine ⟨_, rfl, _, rfl, s3, fun pi hpi => ?_⟩
 have hpid : pi ≠ hd := fun z => by rw [z, hh0.1] at hpi; cases hpi
 have hh1 : Hand (upd (upd Hx hd (hl d m 0 0)) pi (.lst [V.int 12, V.int 30, V.int 80])) hd d m 0 0 := ⟨by rw [zb5 (Ne.symm hpid)]; exact hh0.1, hh0.2⟩
 refine ⟨hd, pi, d, m, 0, 0, _, rfl, hh1, by decide, hpid, SqL.of zb1, by simp, by show 3 < 1000; decide, fun y db mb tb hy cb eb => ?_⟩
 obtain ⟨mo, rfl, hmo⟩ : ∃ mo : Int, y = .int mo /\ 0 <= mo /\ mo <= 80 := by
  simp only [List.mem_cons, List.not_mem_nil, or_false] at hy
  rcases hy with rfl | rfl | rfl
  ·exact ⟨12, rfl, by decide, by decide⟩
  ·exact ⟨30, rfl, by decide, by decide⟩
  ·exact ⟨80, rfl, by decide, by decide⟩
 have hpiX : Hx pi = none := by rw [zb5 hpid] at hpi; exact hpi
 refine ⟨hd, mo, db, mb, tb, 0, rfl, hmo, Hand.at cb, by omega, fun p ks m0 tr H1 d1 m1 t1 r1 f1 hP hK hT h12 hL hh ht => ?_⟩
 have k1 : ∀ b o, Hx b = some o -> H1 b = some o := fun b o e => by
  have nb : b ≠ hd := zb4 e hhd
  have np : b ≠ pi := zb4 e hpiX
  refine f1 b o (by simpa using nb) ?_
  rw [zb5 nb, zb5 np, zb5 nb]; exact e
 have hI := zp5 hP.rows
 have hlen := zj2 hP.rows
 have hmany := hP.many
 refine ⟨3, rfl, by decide, by decide, ?_⟩
 refine zn7 (lo := 0) (n := (3 : Int).toNat) (TuI K Hx H1 a hd p kx' t1) ⟨_, _, _, d1, m1, t1, r1, rfl, k1, (fun _ _ h => h), hh, by omega⟩ ?_ ?_
 ·rintro j σ Hy hj ⟨_, _, _, dy, my, ty, ry, rfl, kp, tp, hhy, hty⟩
  have hj3 : j < 3 := hj
  refine ⟨_, rfl, _, rfl, hd, p, dy, my, ty, ry, tr, rfl, hhy, by omega, hK.keepT tp, hT, h12, hL.keep tp, fun aa ss H2 d2 m2 t2 f2 haa hsl hU hso hh2 ht2 => ?_⟩
  have tp2 : Tup H1 H2 := tp.trans (f2.tup1 hhy.1)
  have kp2 : ∀ b o, Hx b = some o -> H2 b = some o := fun b o e => f2 b o (by simpa using zb4 e hhd) (kp b o e)
  have hP2 := hP.keep tp2
  have hK2 := hK.keepT tp2
  have hI2 := zp5 hP2.rows
  refine ⟨_, rfl, _, rfl, p, aa, ks, m0, tr, ss, rfl, hP2, hK2, hT, h12, haa, hU, hsl, hso, fun bd ed H3 f3 hbd hEd => ?_⟩
  have t3 := Tup.of0 f3
  refine ⟨_, rfl, _, rfl, p, aa, ks, m0, tr, ss, rfl, hP2.keep t3, hK2.keepT t3, hT, h12, t3 _ _ haa, hU, by omega, fun bb eb' H4 f4 hbb hEb => ?_⟩
  have t4 := Tup.of0 f4
  rw [zq4 hI2 t3 fun _ _ => rfl] at hEb
  have hll := xm8 (H := H2) (tr := tr) (ss := ss) (B := okB ss) (Z := zf9 (zf1 ks m0))
  have hbl := hEb.len
  have hS1 : SmT K H4 (Sm K H4 2) (.ref bb) (.ref bd) := ⟨bb, bd, _, _, rfl, rfl, .inl hbb, .inl (t4 _ _ hbd), xk4 hEb (hEd.tkeep t4), by rw [lqm]; omega⟩
  refine ⟨_, rfl, .ref bb, .ref bd, rfl, .inr hS1, fun H5 f5 => ⟨_, rfl, ?_⟩⟩
  have t5 := Tup.of0 f5
  have t35 := t3.trans (t4.trans t5)
  refine ⟨_, rfl, _, rfl, p, aa, ks, m0, tr, ss, rfl, hP2.keep t35, hK2.keepT t35, hT, h12, t35 _ _ haa, hU, by omega, fun bc ec H6 f6 hbc hEc => ?_⟩
  have t6 := Tup.of0 f6
  rw [zq4 hI2 t35 fun _ _ => rfl] at hEc
  have hcl := hEc.len
  refine ⟨_, rfl, ⟨bc, bd, _, _, rfl, rfl, .inl hbc, .inl (((t4.trans t5).trans t6) _ _ hbd), xk4 hEc (hEd.tkeep ((t4.trans t5).trans t6)), by rw [lqm]; omega⟩, _, rfl, ?_⟩
  have f36 := ((f3.trans f4).trans f5).trans f6
  exact ⟨_, _, _, d2, m2, t2, ry, rfl, fun b o e => f36 b o List.not_mem_nil (kp2 b o e), tp2.trans (Tup.of0 f36), ⟨f36 _ _ List.not_mem_nil hh2.1, hh2.2⟩, by omega⟩
 ·rintro σ Hy ⟨_, _, _, dy, my, ty, ry, rfl, kp, tp, hhy, hty⟩
  exact ⟨_, _, _, _, _, _, rfl, xx8 hSx kp⟩
end
end Gn
end
section
namespace Gn
open PySem L2
theorem xp2 {P : Program} {w : World} {K : PySem.W.Frag} {mg : Str -> Option Value} {base : Heap} {f : Addr} {fd : FuncData} {k : Nat} (F : Fun K "_law_rows" "_law_rows" yp0 f fd) : FnOk P w K mg base CX0 (k + 1) f fd zz9 (zx6 0) := by
 refine F.ok yt8 (fun vs H Q E h => ?_) (fun cdv A outer s H vs Q E hr h => ?_)
 ·exact h.elim
 ·exact h.elim
theorem xb6 {P : Program} {w : World} {K : PySem.W.Frag} {mg : Str -> Option Value} {base : Heap} {f : Addr} {fd : FuncData} {k : Nat} (F : Fun K "_law_flat" "_law_flat" yn0 f fd) : FnOk P w K mg base CX0 (k + 1) f fd pLis (yh8 0) := by
 refine F.ok zr0 (fun vs H Q E h => ?_) (fun cdv A outer s H vs Q E hr h => ?_)
 ·exact h.elim
 ·exact h.elim
theorem xf2 {P : Program} {w : World} {K : PySem.W.Frag} {mg : Str -> Option Value} {base : Heap} {f : Addr} {fd : FuncData} {k : Nat} (F : Fun K "lay" "lay" sLay f fd) : FnOk P w K mg base CX0 (k + 1) f fd pLay (xc1 0) := by
 refine F.ok xh1 (fun vs H Q E h => ?_) (fun cdv A outer s H vs Q E hr h => ?_)
 ·exact h.elim
 ·exact h.elim
theorem xk2 {K : PySem.W.Frag} {a : Addr} {od : Option Addr} {x y : Str} {t1 t2 n : Nat} {sl : Array (Option Value)} (l : K.lookup a = some ⟨.type "tuple", od, .seq #[.str x t1, .str y t2] n, sl⟩) (H : Hp) : SqT K H a [.str x, .str y] :=
 .inr ⟨_, _, _, l, rfl, rfl, by show 2 <= sizeLine; exact Nat.le_of_lt (zc2 (by decide)), .cons ⟨_, rfl⟩ (.cons ⟨_, rfl⟩ .nil)⟩
set_option maxHeartbeats 4000000 in
theorem all_mk {l : PySem.W.OpenLaw} {w : World} {K : PySem.W.Frag} {h : Heap} {mg : Str -> Option Value} {fa : Addr} (X : K.In h) (G : h.Ns mainGlobals mg) (hfa : mg "law" = some (.ref fa))
  {f1 f2 f3 f4 f5 f6 f7 f8 f9 f10 f11 f12 f13 f14 f15 f16 f17 f18 f19 f20 f21 f22 f23 f24 f25 f26 f27 f28 f29 f30 f31 f32 f33 f34 f35 am ah : Addr} {od1 an1 od2 an2 od3 an3 od4 an4 od5 an5 od6 an6 od7 an7 od8 an8 od9 an9 od10 an10 od11 an11 od12 an12 od13 an13 od14 an14 od15 an15 od16 an16 od17 an17 od18 an18 od19 an19 od20 an20 od21 an21 od22 an22 od23 an23 od24 an24 od25 an25 od26 an26 od27 an27 od28 an28 od29 an29 od30 an30 od31 an31 od32 an32 od33 an33 od34 an34 od35 an35 odm odh : Option Addr} {sl1 sl2 sl3 sl4 sl5 sl6 sl7 sl8 sl9 sl10 sl11 sl12 sl13 sl14 sl15 sl16 sl17 sl18 sl19 sl20 sl21 sl22 sl23 sl24 sl25 sl26 sl27 sl28 sl29 sl30 sl31 sl32 sl33 sl34 sl35 slm slh : Array (Option Value)} {oc1 kV1 dc1 pm1 cd1 ct1 oc2 kV2 dc2 pm2 cd2 ct2 oc3 kV3 dc3 pm3 cd3 ct3 oc4 kV4 dc4 pm4 cd4 ct4 oc5 kV5 dc5 pm5 cd5 ct5 oc6 kV6 dc6 pm6 cd6 ct6 oc7 kV7 dc7 pm7 cd7 ct7 oc8 kV8 dc8 pm8 cd8 ct8 oc9 kV9 dc9 pm9 cd9 ct9 oc10 kV10 dc10 pm10 cd10 ct10 oc11 kV11 dc11 pm11 cd11 ct11 oc12 kV12 dc12 pm12 cd12 ct12 oc13 kV13 dc13 pm13 cd13 ct13 oc14 kV14 dc14 pm14 cd14 ct14 oc15 kV15 dc15 pm15 cd15 ct15 oc16 kV16 dc16 pm16 cd16 ct16 oc17 kV17 dc17 pm17 cd17 ct17 oc18 kV18 dc18 pm18 cd18 ct18 oc19 kV19 dc19 pm19 cd19 ct19 oc20 kV20 dc20 pm20 cd20 ct20 oc21 kV21 dc21 pm21 cd21 ct21 oc22 kV22 dc22 pm22 cd22 ct22 oc23 kV23 dc23 pm23 cd23 ct23 oc24 kV24 dc24 pm24 cd24 ct24 oc25 kV25 dc25 pm25 cd25 ct25 oc26 kV26 dc26 pm26 cd26 ct26 oc27 kV27 dc27 pm27 cd27 ct27 oc28 kV28 dc28 pm28 cd28 ct28 oc29 kV29 dc29 pm29 cd29 ct29 oc30 kV30 dc30 pm30 cd30 ct30 oc31 kV31 dc31 pm31 cd31 ct31 oc32 kV32 dc32 pm32 cd32 ct32 oc33 kV33 dc33 pm33 cd33 ct33 oc34 kV34 dc34 pm34 cd34 ct34 oc35 kV35 dc35 pm35 cd35 ct35 : Value} {tm1 tm2 nm th1 th2 nh : Nat}
  (a1 : PySem.W.nsIn K mainGlobals "elders" = some (some (.ref f1))) (l1 : K.lookup f1 = some ⟨oc1, od1, .func (PySem.W.fnOf "elders" "elders" (zd2 zr9) (zc5 zr9) (zb7 zr9) .none kV1 dc1 pm1 an1 cd1 ct1), sl1⟩) (c1 : PySem.W.codeIn K cd1 "elders" = true) (k1 : PySem.W.keepIn K (.ref f1) = true)
  (a2 : PySem.W.nsIn K mainGlobals "is_below" = some (some (.ref f2))) (l2 : K.lookup f2 = some ⟨oc2, od2, .func (PySem.W.fnOf "is_below" "is_below" (zd2 yc0) (zc5 yc0) (zb7 yc0) .none kV2 dc2 pm2 an2 cd2 ct2), sl2⟩) (c2 : PySem.W.codeIn K cd2 "is_below" = true) (k2 : PySem.W.keepIn K (.ref f2) = true)
  (a3 : PySem.W.nsIn K mainGlobals "all_below" = some (some (.ref f3))) (l3 : K.lookup f3 = some ⟨oc3, od3, .func (PySem.W.fnOf "all_below" "all_below" (zd2 yx8) (zc5 yx8) (zb7 yx8) .none kV3 dc3 pm3 an3 cd3 ct3), sl3⟩) (c3 : PySem.W.codeIn K cd3 "all_below" = true) (k3 : PySem.W.keepIn K (.ref f3) = true)
  (a4 : PySem.W.nsIn K mainGlobals "bodies" = some (some (.ref f4))) (l4 : K.lookup f4 = some ⟨oc4, od4, .func (PySem.W.fnOf "bodies" "bodies" (zd2 zs0) (zc5 zs0) (zb7 zs0) .none kV4 dc4 pm4 an4 cd4 ct4), sl4⟩) (c4 : PySem.W.codeIn K cd4 "bodies" = true) (k4 : PySem.W.keepIn K (.ref f4) = true)
  (a5 : PySem.W.nsIn K mainGlobals "rows_within" = some (some (.ref f5))) (l5 : K.lookup f5 = some ⟨oc5, od5, .func (PySem.W.fnOf "rows_within" "rows_within" (zd2 zr8) (zc5 zr8) (zb7 zr8) .none kV5 dc5 pm5 an5 cd5 ct5), sl5⟩) (c5 : PySem.W.codeIn K cd5 "rows_within" = true) (k5 : PySem.W.keepIn K (.ref f5) = true)
  (a6 : PySem.W.nsIn K mainGlobals "lay" = some (some (.ref f6))) (l6 : K.lookup f6 = some ⟨oc6, od6, .func (PySem.W.fnOf "lay" "lay" (zd2 sLay) (zc5 sLay) (zb7 sLay) .none kV6 dc6 pm6 an6 cd6 ct6), sl6⟩) (c6 : PySem.W.codeIn K cd6 "lay" = true) (k6 : PySem.W.keepIn K (.ref f6) = true)
  (a7 : PySem.W.nsIn K mainGlobals "numbered" = some (some (.ref f7))) (l7 : K.lookup f7 = some ⟨oc7, od7, .func (PySem.W.fnOf "numbered" "numbered" (zd2 yw3) (zc5 yw3) (zb7 yw3) .none kV7 dc7 pm7 an7 cd7 ct7), sl7⟩) (c7 : PySem.W.codeIn K cd7 "numbered" = true) (k7 : PySem.W.keepIn K (.ref f7) = true)
  (a8 : PySem.W.nsIn K mainGlobals "calls" = some (some (.ref f8))) (l8 : K.lookup f8 = some ⟨oc8, od8, .func (PySem.W.fnOf "calls" "calls" (zd2 yb1) (zc5 yb1) (zb7 yb1) .none kV8 dc8 pm8 an8 cd8 ct8), sl8⟩) (c8 : PySem.W.codeIn K cd8 "calls" = true) (k8 : PySem.W.keepIn K (.ref f8) = true)
  (a9 : PySem.W.nsIn K mainGlobals "told_among" = some (some (.ref f9))) (l9 : K.lookup f9 = some ⟨oc9, od9, .func (PySem.W.fnOf "told_among" "told_among" (zd2 yc2) (zc5 yc2) (zb7 yc2) .none kV9 dc9 pm9 an9 cd9 ct9), sl9⟩) (c9 : PySem.W.codeIn K cd9 "told_among" = true) (k9 : PySem.W.keepIn K (.ref f9) = true)
  (a10 : PySem.W.nsIn K mainGlobals "by_tree" = some (some (.ref f10))) (l10 : K.lookup f10 = some ⟨oc10, od10, .func (PySem.W.fnOf "by_tree" "by_tree" (zd2 zr7) (zc5 zr7) (zb7 zr7) .none kV10 dc10 pm10 an10 cd10 ct10), sl10⟩) (c10 : PySem.W.codeIn K cd10 "by_tree" = true) (k10 : PySem.W.keepIn K (.ref f10) = true)
  (a11 : PySem.W.nsIn K mainGlobals "_law_hand" = some (some (.ref f11))) (l11 : K.lookup f11 = some ⟨oc11, od11, .func (PySem.W.fnOf "_law_hand" "_law_hand" (zd2 yv9) (zc5 yv9) (zb7 yv9) .none kV11 dc11 pm11 an11 cd11 ct11), sl11⟩) (c11 : PySem.W.codeIn K cd11 "_law_hand" = true) (k11 : PySem.W.keepIn K (.ref f11) = true)
  (a12 : PySem.W.nsIn K mainGlobals "_law_take" = some (some (.ref f12))) (l12 : K.lookup f12 = some ⟨oc12, od12, .func (PySem.W.fnOf "_law_take" "_law_take" (zd2 yw8) (zc5 yw8) (zb7 yw8) .none kV12 dc12 pm12 an12 cd12 ct12), sl12⟩) (c12 : PySem.W.codeIn K cd12 "_law_take" = true) (k12 : PySem.W.keepIn K (.ref f12) = true)
  (a13 : PySem.W.nsIn K mainGlobals "_law_of" = some (some (.ref f13))) (l13 : K.lookup f13 = some ⟨oc13, od13, .func (PySem.W.fnOf "_law_of" "_law_of" (zd2 sOf) (zc5 sOf) (zb7 sOf) .none kV13 dc13 pm13 an13 cd13 ct13), sl13⟩) (c13 : PySem.W.codeIn K cd13 "_law_of" = true) (k13 : PySem.W.keepIn K (.ref f13) = true)
  (a14 : PySem.W.nsIn K mainGlobals "_law_words" = some (some (.ref f14))) (l14 : K.lookup f14 = some ⟨oc14, od14, .func (PySem.W.fnOf "_law_words" "_law_words" (zd2 zn5) (zc5 zn5) (zb7 zn5) .none kV14 dc14 pm14 an14 cd14 ct14), sl14⟩) (c14 : PySem.W.codeIn K cd14 "_law_words" = true) (k14 : PySem.W.keepIn K (.ref f14) = true)
  (a15 : PySem.W.nsIn K mainGlobals "_law_tree" = some (some (.ref f15))) (l15 : K.lookup f15 = some ⟨oc15, od15, .func (PySem.W.fnOf "_law_tree" "_law_tree" (zd2 yx9) (zc5 yx9) (zb7 yx9) .none kV15 dc15 pm15 an15 cd15 ct15), sl15⟩) (c15 : PySem.W.codeIn K cd15 "_law_tree" = true) (k15 : PySem.W.keepIn K (.ref f15) = true)
  (a16 : PySem.W.nsIn K mainGlobals "_law_world" = some (some (.ref f16))) (l16 : K.lookup f16 = some ⟨oc16, od16, .func (PySem.W.fnOf "_law_world" "_law_world" (zd2 zn9) (zc5 zn9) (zb7 zn9) .none kV16 dc16 pm16 an16 cd16 ct16), sl16⟩) (c16 : PySem.W.codeIn K cd16 "_law_world" = true) (k16 : PySem.W.keepIn K (.ref f16) = true)
  (a17 : PySem.W.nsIn K mainGlobals "_law_line" = some (some (.ref f17))) (l17 : K.lookup f17 = some ⟨oc17, od17, .func (PySem.W.fnOf "_law_line" "_law_line" (zd2 yv8) (zc5 yv8) (zb7 yv8) .none kV17 dc17 pm17 an17 cd17 ct17), sl17⟩) (c17 : PySem.W.codeIn K cd17 "_law_line" = true) (k17 : PySem.W.keepIn K (.ref f17) = true)
  (a18 : PySem.W.nsIn K mainGlobals "_law_has" = some (some (.ref f18))) (l18 : K.lookup f18 = some ⟨oc18, od18, .func (PySem.W.fnOf "_law_has" "_law_has" (zd2 sHas) (zc5 sHas) (zb7 sHas) .none kV18 dc18 pm18 an18 cd18 ct18), sl18⟩) (c18 : PySem.W.codeIn K cd18 "_law_has" = true) (k18 : PySem.W.keepIn K (.ref f18) = true)
  (a19 : PySem.W.nsIn K mainGlobals "_law_variable" = some (some (.ref f19))) (l19 : K.lookup f19 = some ⟨oc19, od19, .func (PySem.W.fnOf "_law_variable" "_law_variable" (zd2 sVar) (zc5 sVar) (zb7 sVar) .none kV19 dc19 pm19 an19 cd19 ct19), sl19⟩) (c19 : PySem.W.codeIn K cd19 "_law_variable" = true) (k19 : PySem.W.keepIn K (.ref f19) = true)
  (a20 : PySem.W.nsIn K mainGlobals "_law_target" = some (some (.ref f20))) (l20 : K.lookup f20 = some ⟨oc20, od20, .func (PySem.W.fnOf "_law_target" "_law_target" (zd2 sTgt) (zc5 sTgt) (zb7 sTgt) .none kV20 dc20 pm20 an20 cd20 ct20), sl20⟩) (c20 : PySem.W.codeIn K cd20 "_law_target" = true) (k20 : PySem.W.keepIn K (.ref f20) = true)
  (a21 : PySem.W.nsIn K mainGlobals "_law_make" = some (some (.ref f21))) (l21 : K.lookup f21 = some ⟨oc21, od21, .func (PySem.W.fnOf "_law_make" "_law_make" (zd2 yv2) (zc5 yv2) (zb7 yv2) .none kV21 dc21 pm21 an21 cd21 ct21), sl21⟩) (c21 : PySem.W.codeIn K cd21 "_law_make" = true) (k21 : PySem.W.keepIn K (.ref f21) = true)
  (a22 : PySem.W.nsIn K mainGlobals "_law_args" = some (some (.ref f22))) (l22 : K.lookup f22 = some ⟨oc22, od22, .func (PySem.W.fnOf "_law_args" "_law_args" (zd2 yw1) (zc5 yw1) (zb7 yw1) .none kV22 dc22 pm22 an22 cd22 ct22), sl22⟩) (c22 : PySem.W.codeIn K cd22 "_law_args" = true) (k22 : PySem.W.keepIn K (.ref f22) = true)
  (a23 : PySem.W.nsIn K mainGlobals "_law_call" = some (some (.ref f23))) (l23 : K.lookup f23 = some ⟨oc23, od23, .func (PySem.W.fnOf "_law_call" "_law_call" (zd2 yx1) (zc5 yx1) (zb7 yx1) .none kV23 dc23 pm23 an23 cd23 ct23), sl23⟩) (c23 : PySem.W.codeIn K cd23 "_law_call" = true) (k23 : PySem.W.keepIn K (.ref f23) = true)
  (a24 : PySem.W.nsIn K mainGlobals "_law_field" = some (some (.ref f24))) (l24 : K.lookup f24 = some ⟨oc24, od24, .func (PySem.W.fnOf "_law_field" "_law_field" (zd2 yb8) (zc5 yb8) (zb7 yb8) .none kV24 dc24 pm24 an24 cd24 ct24), sl24⟩) (c24 : PySem.W.codeIn K cd24 "_law_field" = true) (k24 : PySem.W.keepIn K (.ref f24) = true)
  (a25 : PySem.W.nsIn K mainGlobals "_law_row" = some (some (.ref f25))) (l25 : K.lookup f25 = some ⟨oc25, od25, .func (PySem.W.fnOf "_law_row" "_law_row" (zd2 sRow) (zc5 sRow) (zb7 sRow) .none kV25 dc25 pm25 an25 cd25 ct25), sl25⟩) (c25 : PySem.W.codeIn K cd25 "_law_row" = true) (k25 : PySem.W.keepIn K (.ref f25) = true)
  (a26 : PySem.W.nsIn K mainGlobals "_law_rows" = some (some (.ref f26))) (l26 : K.lookup f26 = some ⟨oc26, od26, .func (PySem.W.fnOf "_law_rows" "_law_rows" (zd2 yp0) (zc5 yp0) (zb7 yp0) .none kV26 dc26 pm26 an26 cd26 ct26), sl26⟩) (c26 : PySem.W.codeIn K cd26 "_law_rows" = true) (k26 : PySem.W.keepIn K (.ref f26) = true)
  (a27 : PySem.W.nsIn K mainGlobals "_law_deed" = some (some (.ref f27))) (l27 : K.lookup f27 = some ⟨oc27, od27, .func (PySem.W.fnOf "_law_deed" "_law_deed" (zd2 yv1) (zc5 yv1) (zb7 yv1) .none kV27 dc27 pm27 an27 cd27 ct27), sl27⟩) (c27 : PySem.W.codeIn K cd27 "_law_deed" = true) (k27 : PySem.W.keepIn K (.ref f27) = true)
  (a28 : PySem.W.nsIn K mainGlobals "_law_program" = some (some (.ref f28))) (l28 : K.lookup f28 = some ⟨oc28, od28, .func (PySem.W.fnOf "_law_program" "_law_program" (zd2 yx3) (zc5 yx3) (zb7 yx3) .none kV28 dc28 pm28 an28 cd28 ct28), sl28⟩) (c28 : PySem.W.codeIn K cd28 "_law_program" = true) (k28 : PySem.W.keepIn K (.ref f28) = true)
  (a29 : PySem.W.nsIn K mainGlobals "_law_there" = some (some (.ref f29))) (l29 : K.lookup f29 = some ⟨oc29, od29, .func (PySem.W.fnOf "_law_there" "_law_there" (zd2 yc6) (zc5 yc6) (zb7 yc6) .none kV29 dc29 pm29 an29 cd29 ct29), sl29⟩) (c29 : PySem.W.codeIn K cd29 "_law_there" = true) (k29 : PySem.W.keepIn K (.ref f29) = true)
  (a30 : PySem.W.nsIn K mainGlobals "_law_flat" = some (some (.ref f30))) (l30 : K.lookup f30 = some ⟨oc30, od30, .func (PySem.W.fnOf "_law_flat" "_law_flat" (zd2 yn0) (zc5 yn0) (zb7 yn0) .none kV30 dc30 pm30 an30 cd30 ct30), sl30⟩) (c30 : PySem.W.codeIn K cd30 "_law_flat" = true) (k30 : PySem.W.keepIn K (.ref f30) = true)
  (a31 : PySem.W.nsIn K mainGlobals "_law_numbered" = some (some (.ref f31))) (l31 : K.lookup f31 = some ⟨oc31, od31, .func (PySem.W.fnOf "_law_numbered" "_law_numbered" (zd2 yv3) (zc5 yv3) (zb7 yv3) .none kV31 dc31 pm31 an31 cd31 ct31), sl31⟩) (c31 : PySem.W.codeIn K cd31 "_law_numbered" = true) (k31 : PySem.W.keepIn K (.ref f31) = true)
  (a32 : PySem.W.nsIn K mainGlobals "_law_up" = some (some (.ref f32))) (l32 : K.lookup f32 = some ⟨oc32, od32, .func (PySem.W.fnOf "_law_up" "_law_up" (zd2 sUp) (zc5 sUp) (zb7 sUp) .none kV32 dc32 pm32 an32 cd32 ct32), sl32⟩) (c32 : PySem.W.codeIn K cd32 "_law_up" = true) (k32 : PySem.W.keepIn K (.ref f32) = true)
  (a33 : PySem.W.nsIn K mainGlobals "_law_same" = some (some (.ref f33))) (l33 : K.lookup f33 = some ⟨oc33, od33, .func (PySem.W.fnOf "_law_same" "_law_same" (zd2 yh4) (zc5 yh4) (zb7 yh4) .none kV33 dc33 pm33 an33 cd33 ct33), sl33⟩) (c33 : PySem.W.codeIn K cd33 "_law_same" = true) (k33 : PySem.W.keepIn K (.ref f33) = true)
  (a34 : PySem.W.nsIn K mainGlobals "_law_due" = some (some (.ref f34))) (l34 : K.lookup f34 = some ⟨oc34, od34, .func (PySem.W.fnOf "_law_due" "_law_due" (zd2 sDue) (zc5 sDue) (zb7 sDue) .none kV34 dc34 pm34 an34 cd34 ct34), sl34⟩) (c34 : PySem.W.codeIn K cd34 "_law_due" = true) (k34 : PySem.W.keepIn K (.ref f34) = true)
  (a35 : PySem.W.nsIn K mainGlobals "law" = some (some (.ref f35))) (l35 : K.lookup f35 = some ⟨oc35, od35, .func (PySem.W.fnOf "law" "law" (zd2 sLaw) (zc5 sLaw) (zb7 sLaw) .none kV35 dc35 pm35 an35 cd35 ct35), sl35⟩) (c35 : PySem.W.codeIn K cd35 "law" = true) (k35 : PySem.W.keepIn K (.ref f35) = true)
  (aM : PySem.W.nsIn K mainGlobals "MAIN" = some (some (.ref am))) (lM : K.lookup am = some ⟨.type "tuple", odm, .seq #[.str "" tm1, .str "" tm2] nm, slm⟩)
  (aH : PySem.W.nsIn K mainGlobals "HOLDERS" = some (some (.ref ah))) (lH : K.lookup ah = some ⟨.type "tuple", odh, .seq #[.str "either" th1, .str "again" th2] nh, slh⟩)
  (z1 : PySem.W.nsIn K mainGlobals "len" = some none)
  (z2 : PySem.W.nsIn K mainGlobals "abs" = some none)
  (z3 : PySem.W.nsIn K mainGlobals "int" = some none)
  (z4 : PySem.W.nsIn K mainGlobals "range" = some none)
  (z5 : PySem.W.nsIn K mainGlobals "tuple" = some none)
  (z6 : PySem.W.nsIn K mainGlobals "dict" = some none)
  (z7 : PySem.W.nsIn K mainGlobals "list" = some none)
  (z8 : PySem.W.nsIn K mainGlobals "any" = some none)
  (z9 : PySem.W.nsIn K mainGlobals "all" = some none)
  (z10 : PySem.W.nsIn K mainGlobals "zip" = some none)
  (z11 : PySem.W.nsIn K mainGlobals "isinstance" = some none)
  (z12 : PySem.W.nsIn K mainGlobals "bool" = some none)
  (z13 : PySem.W.nsIn K mainGlobals "str" = some none)
  (z14 : PySem.W.nsIn K mainGlobals "enumerate" = some none)
  (z15 : PySem.W.nsIn K mainGlobals "sorted" = some none)
  (z16 : PySem.W.nsIn K mainGlobals "max" = some none)
  (z17 : PySem.W.nsIn K mainGlobals "min" = some none) :
  ∃ fd : FuncData, (∀ (s : Shared) (v : Value), BindsTo s fd ⟨[v], []⟩ [("_law_script", v)]) /\ ∀ base : Heap, K.In base -> base.Ns mainGlobals mg -> FnOk l.prog w K mg base CX0 65 fa fd ["_law_script"] (xn7 K) := by
 have e := hfa.symm.trans (PySem.W.mg_of X G a35)
 cases e
 have mM := PySem.W.mg_of X G aM
 have mH := PySem.W.mg_of X G aH
 have F1 := zf5 (st := zr9) l1 c1 k1
 have b1 := F1.binds (ps := ["program", "kind"]) fun _ _ _ _ _ _ us hl => match us, hl with | [_, _], _ => rfl
 have m1 := PySem.W.mg_of X G a1
 have F2 := zf5 (st := yc0) l2 c2 k2
 have b2 := F2.binds (ps := ["program", "one", "other"]) fun _ _ _ _ _ _ us hl => match us, hl with | [_, _, _], _ => rfl
 have m2 := PySem.W.mg_of X G a2
 have F3 := zf5 (st := yx8) l3 c3 k3
 have b3 := F3.binds (ps := ["program", "kinds", "other"]) fun _ _ _ _ _ _ us hl => match us, hl with | [_, _, _], _ => rfl
 have m3 := PySem.W.mg_of X G a3
 have F4 := zf5 (st := zs0) l4 c4 k4
 have b4 := F4.binds (ps := ["program"]) fun _ _ _ _ _ _ us hl => match us, hl with | [_], _ => rfl
 have m4 := PySem.W.mg_of X G a4
 have F5 := zf5 (st := zr8) l5 c5 k5
 have b5 := F5.binds (ps := ["row"]) fun _ _ _ _ _ _ us hl => match us, hl with | [_], _ => rfl
 have m5 := PySem.W.mg_of X G a5
 have F6 := zf5 (st := sLay) l6 c6 k6
 have b6 := F6.binds (ps := ["body", "rows", "found"]) fun _ _ _ _ _ _ us hl => match us, hl with | [_, _, _], _ => rfl
 have m6 := PySem.W.mg_of X G a6
 have F7 := zf5 (st := yw3) l7 c7 k7
 have b7 := F7.binds (ps := ["program"]) fun _ _ _ _ _ _ us hl => match us, hl with | [_], _ => rfl
 have m7 := PySem.W.mg_of X G a7
 have F8 := zf5 (st := yb1) l8 c8 k8
 have b8 := F8.binds (ps := ["program"]) fun _ _ _ _ _ _ us hl => match us, hl with | [_], _ => rfl
 have m8 := PySem.W.mg_of X G a8
 have F9 := zf5 (st := yc2) l9 c9 k9
 have b9 := F9.binds (ps := ["program", "come", "kinds"]) fun _ _ _ _ _ _ us hl => match us, hl with | [_, _, _], _ => rfl
 have m9 := PySem.W.mg_of X G a9
 have F10 := zf5 (st := zr7) l10 c10 k10
 have b10 := F10.binds (ps := ["program", "there"]) fun _ _ _ _ _ _ us hl => match us, hl with | [_, _], _ => rfl
 have m10 := PySem.W.mg_of X G a10
 have F11 := zf5 (st := yv9) l11 c11 k11
 have b11 := F11.binds (ps := ["_law_script", "_law_k"]) fun _ _ _ _ _ _ us hl => match us, hl with | [_, _], _ => rfl
 have m11 := PySem.W.mg_of X G a11
 have F12 := zf5 (st := yw8) l12 c12 k12
 have b12 := F12.binds (ps := ["_law_hand_here", "_law_many"]) fun _ _ _ _ _ _ us hl => match us, hl with | [_, _], _ => rfl
 have m12 := PySem.W.mg_of X G a12
 have F13 := zf5 (st := sOf) l13 c13 k13
 have b13 := F13.binds (ps := ["_law_hand_here", "_law_some"]) fun _ _ _ _ _ _ us hl => match us, hl with | [_, _], _ => rfl
 have m13 := PySem.W.mg_of X G a13
 have F14 := zf5 (st := zn5) l14 c14 k14
 have b14 := F14.binds (ps := ["_law_hand_here", "_law_many"]) fun _ _ _ _ _ _ us hl => match us, hl with | [_, _], _ => rfl
 have m14 := PySem.W.mg_of X G a14
 have F15 := zf5 (st := yx9) l15 c15 k15
 have b15 := F15.binds (ps := ["_law_hand_here"]) fun _ _ _ _ _ _ us hl => match us, hl with | [_], _ => rfl
 have m15 := PySem.W.mg_of X G a15
 have F16 := zf5 (st := zn9) l16 c16 k16
 have b16 := F16.binds (ps := ["_law_hand_here"]) fun _ _ _ _ _ _ us hl => match us, hl with | [_], _ => rfl
 have m16 := PySem.W.mg_of X G a16
 have F17 := zf5 (st := yv8) l17 c17 k17
 have b17 := F17.binds (ps := ["_law_world_here", "_law_kind"]) fun _ _ _ _ _ _ us hl => match us, hl with | [_, _], _ => rfl
 have m17 := PySem.W.mg_of X G a17
 have F18 := zf5 (st := sHas) l18 c18 k18
 have b18 := F18.binds (ps := ["_law_world_here", "_law_kind", "_law_deed_here"]) fun _ _ _ _ _ _ us hl => match us, hl with | [_, _, _], _ => rfl
 have m18 := PySem.W.mg_of X G a18
 have F19 := zf5 (st := sVar) l19 c19 k19
 have b19 := F19.binds (ps := ["_law_hand_here", "_law_world_here", "_law_env"]) fun _ _ _ _ _ _ us hl => match us, hl with | [_, _, _], _ => rfl
 have m19 := PySem.W.mg_of X G a19
 have F20 := zf5 (st := sTgt) l20 c20 k20
 have b20 := F20.binds (ps := ["_law_hand_here", "_law_world_here", "_law_env"]) fun _ _ _ _ _ _ us hl => match us, hl with | [_, _, _], _ => rfl
 have m20 := PySem.W.mg_of X G a20
 have F21 := zf5 (st := yv2) l21 c21 k21
 have b21 := F21.binds (ps := ["_law_hand_here", "_law_world_here", "_law_env"]) fun _ _ _ _ _ _ us hl => match us, hl with | [_, _, _], _ => rfl
 have m21 := PySem.W.mg_of X G a21
 have F22 := zf5 (st := yw1) l22 c22 k22
 have b22 := F22.binds (ps := ["_law_hand_here", "_law_world_here", "_law_env", "_law_above", "_law_deed_here"]) fun _ _ _ _ _ _ us hl => match us, hl with | [_, _, _, _, _], _ => rfl
 have m22 := PySem.W.mg_of X G a22
 have F23 := zf5 (st := yx1) l23 c23 k23
 have b23 := F23.binds (ps := ["_law_hand_here", "_law_world_here", "_law_env", "_law_level"]) fun _ _ _ _ _ _ us hl => match us, hl with | [_, _, _, _], _ => rfl
 have m23 := PySem.W.mg_of X G a23
 have F24 := zf5 (st := yb8) l24 c24 k24
 have b24 := F24.binds (ps := ["_law_hand_here", "_law_world_here", "_law_env"]) fun _ _ _ _ _ _ us hl => match us, hl with | [_, _, _], _ => rfl
 have m24 := PySem.W.mg_of X G a24
 have F25 := zf5 (st := sRow) l25 c25 k25
 have b25 := F25.binds (ps := ["_law_hand_here", "_law_world_here", "_law_env", "_law_level", "_law_deep"]) fun _ _ _ _ _ _ us hl => match us, hl with | [_, _, _, _, _], _ => rfl
 have m25 := PySem.W.mg_of X G a25
 have F26 := zf5 (st := yp0) l26 c26 k26
 have b26 := F26.binds (ps := ["_law_hand_here", "_law_world_here", "_law_env", "_law_level", "_law_deep", "_law_most"]) fun _ _ _ _ _ _ us hl => match us, hl with | [_, _, _, _, _, _], _ => rfl
 have m26 := PySem.W.mg_of X G a26
 have F27 := zf5 (st := yv1) l27 c27 k27
 have b27 := F27.binds (ps := ["_law_hand_here", "_law_world_here", "_law_kind", "_law_level"]) fun _ _ _ _ _ _ us hl => match us, hl with | [_, _, _, _], _ => rfl
 have m27 := PySem.W.mg_of X G a27
 have F28 := zf5 (st := yx3) l28 c28 k28
 have b28 := F28.binds (ps := ["_law_hand_here", "_law_most"]) fun _ _ _ _ _ _ us hl => match us, hl with | [_, _], _ => rfl
 have m28 := PySem.W.mg_of X G a28
 have F29 := zf5 (st := yc6) l29 c29 k29
 have b29 := F29.binds (ps := ["_law_hand_here", "_law_program_here"]) fun _ _ _ _ _ _ us hl => match us, hl with | [_, _], _ => rfl
 have m29 := PySem.W.mg_of X G a29
 have F30 := zf5 (st := yn0) l30 c30 k30
 have b30 := F30.binds (ps := ["_law_rows_here"]) fun _ _ _ _ _ _ us hl => match us, hl with | [_], _ => rfl
 have m30 := PySem.W.mg_of X G a30
 have F31 := zf5 (st := yv3) l31 c31 k31
 have b31 := F31.binds (ps := ["_law_program_here"]) fun _ _ _ _ _ _ us hl => match us, hl with | [_], _ => rfl
 have m31 := PySem.W.mg_of X G a31
 have F32 := zf5 (st := sUp) l32 c32 k32
 have b32 := F32.binds (ps := ["_law_program_here", "_law_kind"]) fun _ _ _ _ _ _ us hl => match us, hl with | [_, _], _ => rfl
 have m32 := PySem.W.mg_of X G a32
 have F33 := zf5 (st := yh4) l33 c33 k33
 have b33 := F33.binds (ps := ["_law_found", "_law_due_here"]) fun _ _ _ _ _ _ us hl => match us, hl with | [_, _], _ => rfl
 have m33 := PySem.W.mg_of X G a33
 have F34 := zf5 (st := sDue) l34 c34 k34
 have b34 := F34.binds (ps := ["_law_program_here", "_law_there_here"]) fun _ _ _ _ _ _ us hl => match us, hl with | [_, _], _ => rfl
 have m34 := PySem.W.mg_of X G a34
 have F35 := zf5 (st := sLaw) l35 c35 k35
 have y1 := PySem.W.mg_none_of X G z1
 have y2 := PySem.W.mg_none_of X G z2
 have y3 := PySem.W.mg_none_of X G z3
 have y4 := PySem.W.mg_none_of X G z4
 have y5 := PySem.W.mg_none_of X G z5
 have y6 := PySem.W.mg_none_of X G z6
 have y7 := PySem.W.mg_none_of X G z7
 have y8 := PySem.W.mg_none_of X G z8
 have y9 := PySem.W.mg_none_of X G z9
 have y10 := PySem.W.mg_none_of X G z10
 have y11 := PySem.W.mg_none_of X G z11
 have y12 := PySem.W.mg_none_of X G z12
 have y13 := PySem.W.mg_none_of X G z13
 have y14 := PySem.W.mg_none_of X G z14
 have y15 := PySem.W.mg_none_of X G z15
 have y16 := PySem.W.mg_none_of X G z16
 have y17 := PySem.W.mg_none_of X G z17
 refine ⟨PySem.W.fnOf "law" "law" (zd2 sLaw) (zc5 sLaw) (zb7 sLaw) .none kV35 dc35 pm35 an35 cd35 ct35, fun s v => .of_eq rfl, fun base _ _ => ?_⟩
 have Tk : ∀ k : Nat, Cal l.prog w K mg base (k + 1) "_law_take" ["_law_hand_here", "_law_many"] zh5 := fun k => ⟨_, _, xx5 F12, b12, k12, m12⟩
 have Of : ∀ k : Nat, Cal l.prog w K mg base (k + 2) "_law_of" ["_law_hand_here", "_law_some"] (spOf K) := fun k => ⟨_, _, ok_of F13 (Tk k) y1, b13, k13, m13⟩
 have Wd : ∀ k : Nat, Cal l.prog w K mg base (k + 2) "_law_words" ["_law_hand_here", "_law_many"] yd8 := fun k => ⟨_, _, xp6 F14 (Tk k) y1 y4 y3, b14, k14, m14⟩
 have Tr : ∀ k : Nat, Cal l.prog w K mg base (k + 3) "_law_tree" ["_law_hand_here"] xd3 := fun k => ⟨_, _, xx2 F15 (Tk (k + 1)) (Of k) (Wd k) y1 y14, b15, k15, m15⟩
 have Wo : ∀ k : Nat, Cal l.prog w K mg base (k + 4) "_law_world" ["_law_hand_here"] yp5 := fun k => ⟨_, _, xm3 F16 (Tk (k + 2)) (Of (k + 1)) (Wd (k + 1)) (Tr k) y6 y4 y3, b16, k16, m16⟩
 have Li : ∀ k : Nat, Cal l.prog w K mg base (k + 1) "_law_line" ["_law_world_here", "_law_kind"] yg7 := fun k => ⟨_, _, xw4 F17 y6, b17, k17, m17⟩
 have Ha : ∀ k : Nat, Cal l.prog w K mg base (k + 2) "_law_has" ["_law_world_here", "_law_kind", "_law_deed_here"] xz3 := fun k => ⟨_, _, ok_has F18 (Li k) y8, b18, k18, m18⟩
 have Va : ∀ k : Nat, Cal l.prog w K mg base (k + 3) "_law_variable" ["_law_hand_here", "_law_world_here", "_law_env"] yj8 := fun k => ⟨_, _, ok_var F19 (Tk (k + 1)) (Of k) y7, b19, k19, m19⟩
 have Tg : ∀ k : Nat, Cal l.prog w K mg base (k + 3) "_law_target" ["_law_hand_here", "_law_world_here", "_law_env"] yn4 := fun k => ⟨_, _, ok_tgt F20 (Of k), b20, k20, m20⟩
 have Ma : ∀ k : Nat, Cal l.prog w K mg base (k + 4) "_law_make" ["_law_hand_here", "_law_world_here", "_law_env"] ys3 := fun k => ⟨_, _, wc0 F21 (Tk (k + 2)) (Of (k + 1)) (Tg k), b21, k21, m21⟩
 have Ar : ∀ k : Nat, Cal l.prog w K mg base (k + 4) "_law_args" ["_law_hand_here", "_law_world_here", "_law_env", "_law_above", "_law_deed_here"] xf8 := fun k => ⟨_, _, xx1 F22 (Tk (k + 2)) (Of (k + 1)) (Va k) (Li (k + 2)) y5, b22, k22, m22⟩
 have Ca : ∀ k : Nat, Cal l.prog w K mg base (k + 5) "_law_call" ["_law_hand_here", "_law_world_here", "_law_env", "_law_level"] yk5 := fun k => ⟨_, _, xz6 F23 (Tk (k + 3)) (Of (k + 2)) (Va (k + 1)) (Li (k + 3)) (Tg (k + 1)) (Ha (k + 2)) (Ma k) (Ar k), b23, k23, m23⟩
 have Fi : ∀ k : Nat, Cal l.prog w K mg base (k + 4) "_law_field" ["_law_hand_here", "_law_world_here", "_law_env"] ym5 := fun k => ⟨_, _, xk9 F24 (Tk (k + 2)) (Of (k + 1)) (Va k) (Tg k), b24, k24, m24⟩
 have Rn : ∀ k : Nat, Cal l.prog w K mg base (k + 1) "_law_rows" ["_law_hand_here", "_law_world_here", "_law_env", "_law_level", "_law_deep", "_law_most"] (zx6 0) := fun k => ⟨_, _, xp2 F26, b26, k26, m26⟩
 have Row : ∀ (n k : Nat), Cal l.prog w K mg base (k + 5) "_law_rows" zz9 (zx6 n) -> Cal l.prog w K mg base (k + 6) "_law_row" pRow (xv9 n) := fun n k R => ⟨_, _, ok_row F25 (Tk (k + 4)) (Of (k + 3)) (Va (k + 2)) (Tg (k + 2)) (Ma (k + 1)) (Fi (k + 1)) (Ca k) R y4 y1 y5, b25, k25, m25⟩
 have Rows : ∀ (n k : Nat), Cal l.prog w K mg base (k + 7 + 2 * n) "_law_rows" zz9 (zx2 n) := by
  intro n
  induction n with
  | zero => intro k; exact ⟨_, _, yz9 F26 (Tk (k + 5)) (Row 0 k (Rn (k + 4))) y4 y5, b26, k26, m26⟩
  | succ n ih =>
   intro k
   have R1 := Row (n + 1) (k + 2 + 2 * n) (by have := ih k; rwa [show k + 2 + 2 * n + 5 = k + 7 + 2 * n by omega])
   have R2 : Cal l.prog w K mg base (k + 2 + 2 * n + 6 + 1) "_law_rows" zz9 (zx2 (n + 1)) := ⟨_, _, yz9 F26 (by have := Tk (k + 2 + 2 * n + 5); exact this) R1 y4 y5, b26, k26, m26⟩
   rwa [show k + 7 + 2 * (n + 1) = k + 2 + 2 * n + 6 + 1 by omega]
 have R4 : ∀ k : Nat, Cal l.prog w K mg base (k + 15) "_law_rows" zz9 (zx2 4) := fun k => Rows 4 k
 have De : ∀ k : Nat, Cal l.prog w K mg base (k + 16) "_law_deed" ["_law_hand_here", "_law_world_here", "_law_kind", "_law_level"] ys9 := fun k => ⟨_, _, wb0 F27 (Tk (k + 14)) (Of (k + 13)) (Va (k + 12)) (R4 k) y1 y7 y10 y6 y5, b27, k27, m27⟩
 have Pr : ∀ k : Nat, Cal l.prog w K mg base (k + 17) "_law_program" ["_law_hand_here", "_law_most"] xd4 := fun k => ⟨_, _, xw7 F28 (Tk (k + 15)) (Of (k + 14)) (Wo (k + 12)) (De k) (R4 (k + 1)) y1 y4 y5 y15, b28, k28, m28⟩
 have Hn : ∀ k : Nat, Cal l.prog w K mg base (k + 1) "_law_hand" ["_law_script", "_law_k"] (yz5 K) := fun k => ⟨_, _, xw2 F11 y1 y2 y3, b11, k11, m11⟩
 have Bo : ∀ k : Nat, Cal l.prog w K mg base (k + 1) "bodies" ["program"] (zv6 K) := fun k => ⟨_, _, xd9 F4 mM (xk2 lM) y5, b4, k4, m4⟩
 have Wi : ∀ k : Nat, Cal l.prog w K mg base (k + 1) "rows_within" ["row"] yd2 := fun k => ⟨_, _, yz2 F5 mH (xk2 lH), b5, k5, m5⟩
 have Ly : ∀ (n k : Nat), Cal l.prog w K mg base (k + 2 + n) "lay" pLay (xm9 n) := by
  intro n
  induction n with
  | zero => intro k; exact ⟨_, _, xt6 F6 (Wi k) ⟨_, _, xf2 F6, b6, k6, m6⟩ y1 y5, b6, k6, m6⟩
  | succ n ih => intro k; exact ⟨_, _, xt6 F6 (by have := Wi (k + 1 + n); rwa [show k + 1 + n + 1 = k + 2 + n by omega] at this) (ih k) y1 y5, b6, k6, m6⟩
 have Ls : ∀ (n k : Nat), Cal l.prog w K mg base (k + 2 + n) "_law_flat" pLis (zv3 n) := by
  intro n
  induction n with
  | zero => intro k; exact ⟨_, _, yh0 F30 ⟨_, _, xb6 F30, b30, k30, m30⟩, b30, k30, m30⟩
  | succ n ih => intro k; exact ⟨_, _, yh0 F30 (ih k), b30, k30, m30⟩
 have Sa : ∀ (n k : Nat), Cal l.prog w K mg base (k + 1 + n) "_law_same" yf2 (spSm K n) := by
  intro n
  induction n with
  | zero => intro k; exact ⟨_, _, ys1 F33 y11 y5 y12 y13 y3, b33, k33, m33⟩
  | succ n ih => intro k; exact ⟨_, _, ok_sm F33 (ih k) y11 y5 y12 y13 y3 y1 y9 y10, b33, k33, m33⟩
 have Nu : ∀ k : Nat, Cal l.prog w K mg base (k + 7) "numbered" ["program"] (xh2 K) := fun k => ⟨_, _, xx3 F7 (Bo (k + 5)) (Ly 4 k) y5, b7, k7, m7⟩
 have Cs : ∀ k : Nat, Cal l.prog w K mg base (k + 8) "calls" ["program"] (ym6 K) := fun k => ⟨_, _, xq9 F8 (Nu k) y5, b8, k8, m8⟩
 have El : ∀ k : Nat, Cal l.prog w K mg base (k + 1) "elders" ["program", "kind"] yd9 := fun k => ⟨_, _, xc4 F1 y5, b1, k1, m1⟩
 have Be : ∀ k : Nat, Cal l.prog w K mg base (k + 2) "is_below" ["program", "one", "other"] yf1 := fun k => ⟨_, _, xq5 F2 (El k), b2, k2, m2⟩
 have AB : ∀ k : Nat, Cal l.prog w K mg base (k + 3) "all_below" ["program", "kinds", "other"] yr1 := fun k => ⟨_, _, xx7 F3 (Be k), b3, k3, m3⟩
 have Am : ∀ k : Nat, Cal l.prog w K mg base (k + 9) "told_among" ["program", "come", "kinds"] (ym8 K) := fun k => ⟨_, _, xn3 F9 (Cs k) (AB (k + 5)) y5, b9, k9, m9⟩
 have By : ∀ k : Nat, Cal l.prog w K mg base (k + 10) "by_tree" ["program", "there"] spBy := fun k => ⟨_, _, ok_by F10 (Bo (k + 8)) (Am k) mM (xk2 lM), b10, k10, m10⟩
 have Th : ∀ k : Nat, Cal l.prog w K mg base (k + 2) "_law_there" ["_law_hand_here", "_law_program_here"] ym2 := fun k => ⟨_, _, xn6 F29 (Tk k) y5 y15, b29, k29, m29⟩
 have N2 : ∀ k : Nat, Cal l.prog w K mg base (k + 7) "_law_numbered" ["_law_program_here"] (xc6 K) := fun k => ⟨_, _, wb1 F31 (Ls 4 k) y14, b31, k31, m31⟩
 have Up : ∀ k : Nat, Cal l.prog w K mg base (k + 1) "_law_up" ["_law_program_here", "_law_kind"] spUp := fun k => ⟨_, _, ok_up F32 y6, b32, k32, m32⟩
 have Du : ∀ k : Nat, Cal l.prog w K mg base (k + 8) "_law_due" ["_law_program_here", "_law_there_here"] wb7 := fun k => ⟨_, _, ok_due F34 (N2 k) (Up (k + 6)) y5 y15, b34, k34, m34⟩
 exact ok_law F35 (Hn 63) (Pr 47) (Of 62) (Th 62) (Du 56) (Sa 3 60) (By 54) y1 y4 y16 y17
theorem walk {l : PySem.W.OpenLaw} {q : Program} {loose : List Str} {XP : (Str -> Option Value) -> Heap -> Prop} {YP : World -> Heap -> Prop} {d : DefRec} {K : Params -> PySem.W.Frag} (hn : l.most = some 63) (hdf : d.params.defaults = [])
  (hY : ∀ (w : World) (h : Heap), YP w h -> (K w.params).In h)
  (F : ∀ (w : World) (mg : Str -> Option Value) (fa : Addr) (h : Heap), (K w.params).In h -> h.Ns mainGlobals mg -> mg d.name = some (.ref fa) ->
   ∃ fd : FuncData, (∀ (s : Shared) (u : Value), BindsTo s fd ⟨[u], []⟩ [("_law_script", u)]) /\ ∀ base : Heap, (K w.params).In base -> base.Ns mainGlobals mg -> FnOk l.prog w (K w.params) mg base CX0 65 fa fd ["_law_script"] (xn7 (K w.params))) :
  PySem.W.WalkO q loose XP YP l.row.toRowW d [] (fun f vs => PySem.call f vs) :=
 L2.wb5 (n := 63) (k := 65) (x := "_law_script") (CX := fun _ => CX0) (sp := fun w => xn7 (K w.params)) hn (by decide) hdf ⟨rfl, by decide, by decide⟩ hY F (fun _ _ a ns hl _ hS => ⟨a, ns, rfl, hS, hl, fun _ => rfl⟩) fun _ _ _ _ _ z => z
end Gn
def PySem.W.Fast.tw6215637793535017622 : Unit := ()
def PySem.W.Fast.tw7603085181004224315 : Unit := ()
def PySem.W.Fast.tw7955158130638923455 : Unit := ()
def PySem.W.Fast.tw1013915574889864659 : Unit := ()
def PySem.W.Fast.tw6470310206797087191 : Unit := ()
def PySem.W.Fast.tw5019466326113463993 : Unit := ()
def PySem.W.Fast.tw2536781833972790284 : Unit := ()
def PySem.W.Fast.tw14172305245200297244 : Unit := ()
def PySem.W.Fast.tw9782640206452055767 : Unit := ()
open PySem PySem.W PyProof.Rows
set_option maxRecDepth 100000 in
set_option maxHeartbeats 0 in
theorem PySem.Challenge.cw_surecall_k13_by_the_tree_holds : PySem.Challenge.rw_surecall_k13_by_the_tree.Holds := by
 w_on; o_law; k_head; (case hw => w_witness2)
 k_fill
 refine Gn.walk (l := PySem.Challenge.rw_surecall_k13_by_the_tree) rfl rfl (fun w h Y => PySem.W.kIn_of Y) ?F
 case F =>
  intro w mg fa h KX G hmg
  refine' Gn.all_mk KX G hmg ?a1 ?l1 ?c1 ?k1 ?a2 ?l2 ?c2 ?k2 ?a3 ?l3 ?c3 ?k3 ?a4 ?l4 ?c4 ?k4 ?a5 ?l5 ?c5 ?k5 ?a6 ?l6 ?c6 ?k6 ?a7 ?l7 ?c7 ?k7 ?a8 ?l8 ?c8 ?k8 ?a9 ?l9 ?c9 ?k9 ?a10 ?l10 ?c10 ?k10 ?a11 ?l11 ?c11 ?k11 ?a12 ?l12 ?c12 ?k12 ?a13 ?l13 ?c13 ?k13 ?a14 ?l14 ?c14 ?k14 ?a15 ?l15 ?c15 ?k15 ?a16 ?l16 ?c16 ?k16 ?a17 ?l17 ?c17 ?k17 ?a18 ?l18 ?c18 ?k18 ?a19 ?l19 ?c19 ?k19 ?a20 ?l20 ?c20 ?k20 ?a21 ?l21 ?c21 ?k21 ?a22 ?l22 ?c22 ?k22 ?a23 ?l23 ?c23 ?k23 ?a24 ?l24 ?c24 ?k24 ?a25 ?l25 ?c25 ?k25 ?a26 ?l26 ?c26 ?k26 ?a27 ?l27 ?c27 ?k27 ?a28 ?l28 ?c28 ?k28 ?a29 ?l29 ?c29 ?k29 ?a30 ?l30 ?c30 ?k30 ?a31 ?l31 ?c31 ?k31 ?a32 ?l32 ?c32 ?k32 ?a33 ?l33 ?c33 ?k33 ?a34 ?l34 ?c34 ?k34 ?a35 ?l35 ?c35 ?k35 ?aM ?lM ?aH ?lH ?z1 ?z2 ?z3 ?z4 ?z5 ?z6 ?z7 ?z8 ?z9 ?z10 ?z11 ?z12 ?z13 ?z14 ?z15 ?z16 ?z17
  (case a1 | l1 | c1 | k1 => k_is)
  (case a2 | l2 | c2 | k2 => k_is)
  (case a3 | l3 | c3 | k3 => k_is)
  (case a4 | l4 | c4 | k4 => k_is)
  (case a5 | l5 | c5 | k5 => k_is)
  (case a6 | l6 | c6 | k6 => k_is)
  (case a7 | l7 | c7 | k7 => k_is)
  (case a8 | l8 | c8 | k8 => k_is)
  (case a9 | l9 | c9 | k9 => k_is)
  (case a10 | l10 | c10 | k10 => k_is)
  (case a11 | l11 | c11 | k11 => k_is)
  (case a12 | l12 | c12 | k12 => k_is)
  (case a13 | l13 | c13 | k13 => k_is)
  (case a14 | l14 | c14 | k14 => k_is)
  (case a15 | l15 | c15 | k15 => k_is)
  (case a16 | l16 | c16 | k16 => k_is)
  (case a17 | l17 | c17 | k17 => k_is)
  (case a18 | l18 | c18 | k18 => k_is)
  (case a19 | l19 | c19 | k19 => k_is)
  (case a20 | l20 | c20 | k20 => k_is)
  (case a21 | l21 | c21 | k21 => k_is)
  (case a22 | l22 | c22 | k22 => k_is)
  (case a23 | l23 | c23 | k23 => k_is)
  (case a24 | l24 | c24 | k24 => k_is)
  (case a25 | l25 | c25 | k25 => k_is)
  (case a26 | l26 | c26 | k26 => k_is)
  (case a27 | l27 | c27 | k27 => k_is)
  (case a28 | l28 | c28 | k28 => k_is)
  (case a29 | l29 | c29 | k29 => k_is)
  (case a30 | l30 | c30 | k30 => k_is)
  (case a31 | l31 | c31 | k31 => k_is)
  (case a32 | l32 | c32 | k32 => k_is)
  (case a33 | l33 | c33 | k33 => k_is)
  (case a34 | l34 | c34 | k34 => k_is)
  (case a35 | l35 | c35 | k35 => k_is)
  (case aM | lM | aH | lH => k_is)
  (case z1 | z2 | z3 | z4 | z5 | z6 | z7 | z8 | z9 | z10 | z11 | z12 | z13 | z14 | z15 | z16 | z17 => k_is)
#print axioms PySem.Challenge.cw_surecall_k13_by_the_tree_holds
end
