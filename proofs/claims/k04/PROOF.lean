import PyProof.Rows.All
import Wide.All
import OpenK.AllK
import Wide.FinOn
import Lean
import PyProof.EqAt
import PyProof.EqKinds
import PyProof.TupleCall
import PyProof.NeKinds
import PySem.Challenge.RW_surecall_k04_programs_at_their_bounds
section
set_option Elab.async false
set_option linter.all false
set_option maxRecDepth 100000
namespace L2
open PySem PySem.Spec PyProof.Rows

abbrev Key := Sum Int Str
def keyIs : Key → Value → Bool
  | .inl k, v => Value.isInt k v
  | .inr x, v => Value.isStrOf x v
def keyH (w : World) : Key → Int
  | .inl k => hashInt k
  | .inr x => hashStr w x
theorem keyIs_shape : ∀ {k : Key} {v : Value}, keyIs k v = true → (∃ i t, k = Sum.inl i ∧ v = Value.int i t) ∨ (∃ x t, k = Sum.inr x ∧ v = Value.str x t)
  | .inl i, v, h => by
    obtain ⟨t, e⟩ := Value.isInt_shape (k := i) (v := v) h
    exact .inl ⟨i, t, rfl, e⟩
  | .inr x, v, h => by
    obtain ⟨t, e⟩ := Value.isStrOf_shape (x := x) (v := v) h
    exact .inr ⟨x, t, rfl, e⟩
theorem keyIs_int (i : Int) (t : Tok) : keyIs (.inl i) (.int i t) = true := by simp [keyIs, Value.isInt]
theorem keyIs_str (x : Str) (t : Tok) : keyIs (.inr x) (.str x t) = true := by simp [keyIs, Value.isStrOf]
theorem key_ll (a b : Int) : decide ((Sum.inl a : Key) = Sum.inl b) = (a == b) := by
  by_cases e : a = b
  · subst e; simp
  · have h : ¬ (Sum.inl a : Key) = Sum.inl b := fun q => e (Sum.inl.inj q)
    rw [decide_eq_false h]
    exact (beq_eq_false_iff_ne.mpr e).symm
theorem key_rr (a b : Str) : decide ((Sum.inr a : Key) = Sum.inr b) = decide (a = b) := by
  by_cases e : a = b
  · subst e; simp
  · have h : ¬ (Sum.inr a : Key) = Sum.inr b := fun q => e (Sum.inr.inj q)
    rw [decide_eq_false h, decide_eq_false e]
theorem key_lr (a : Int) (b : Str) : decide ((Sum.inl a : Key) = Sum.inr b) = false := decide_eq_false (fun q => nomatch q)
theorem key_rl (a : Str) (b : Int) : decide ((Sum.inr a : Key) = Sum.inl b) = false := decide_eq_false (fun q => nomatch q)

def mixKind (prog : Program) (w : World) : PySem.KeyKind prog w Key where
  is := keyIs
  hash := keyH w
  inj := fun v a b ha hb => by
    rcases keyIs_shape ha with ⟨i, t, rfl, rfl⟩ | ⟨x, t, rfl, rfl⟩
    · rcases keyIs_shape hb with ⟨j, u, rfl, e⟩ | ⟨y, u, rfl, e⟩
      · injection e with e1 _; rw [e1]
      · exact nomatch e
    · rcases keyIs_shape hb with ⟨j, u, rfl, e⟩ | ⟨y, u, rfl, e⟩
      · exact nomatch e
      · injection e with e1 _; rw [e1]
  byValue := fun k v h => by
    rcases keyIs_shape h with ⟨i, t, rfl, rfl⟩ | ⟨x, t, rfl, rfl⟩ <;> rfl
  pyHash := fun hv h => by
    rcases keyIs_shape hv with ⟨i, t, rfl, rfl⟩ | ⟨x, t, rfl, rfl⟩
    · exact wpAny_pyHash_int h
    · exact wpAny_pyHash_str h
  eqBool := fun hu hv h => by
    rcases keyIs_shape hu with ⟨i, t, rfl, rfl⟩ | ⟨x, t, rfl, rfl⟩
    · rcases keyIs_shape hv with ⟨j, u, rfl, rfl⟩ | ⟨y, u, rfl, rfl⟩
      · rw [key_ll] at h; exact wpAny_eqBool_int h
      · rw [key_lr] at h; exact SeqAt.EqAt.int_str i t y u _ _ _ _ h
    · rcases keyIs_shape hv with ⟨j, u, rfl, rfl⟩ | ⟨y, u, rfl, rfl⟩
      · rw [key_rl] at h; exact SeqAt.EqAt.str_int x t j u _ _ _ _ h
      · rw [key_rr] at h; exact wpAny_eqBool_str h
  «strs» := fun k x t v h => by
    rcases keyIs_shape h with ⟨i, u, rfl, e⟩ | ⟨y, u, rfl, e⟩
    · exact nomatch e
    · injection e with e1 _
      subst e1
      cases v <;> rfl

theorem mixKind_int (prog : Program) (w : World) (i : Int) (t : Tok) : (mixKind prog w).is (.inl i) (.int i t) = true := keyIs_int i t
theorem mixKind_str (prog : Program) (w : World) (x : Str) (t : Tok) : (mixKind prog w).is (.inr x) (.str x t) = true := keyIs_str x t
end L2

namespace L2
open PySem PySem.Spec PyProof.Rows

inductive V where
  | non | bl (b : Bool) | int (i : Int) | str (x : Str) | byt (b : Array UInt8) | flt (b : UInt64) | ref (a : Addr) | ty (n : String)
  deriving DecidableEq

def RelV : V → Value → Prop
  | .non, u => u = Value.none
  | .bl b, u => u = Value.bool b
  | .int i, u => ∃ t, u = Value.int i t
  | .str x, u => ∃ t, u = Value.str x t
  | .byt b, u => ∃ t, u = Value.bytes b t
  | .flt b, u => ∃ t, u = Value.float b t
  | .ref a, u => u = Value.ref a
  | .ty n, u => u = Value.type n

abbrev Vals : List V → List Value → Prop := Paired RelV
theorem Vals.length {xs : List V} {us : List Value} (r : Vals xs us) : xs.length = us.length := Paired.length r
theorem Vals.get : ∀ {xs : List V} {us : List Value} {i : Nat} {x : V}, Vals xs us → xs[i]? = some x → ∃ u, us[i]? = some u ∧ RelV x u
  | _, _, _, _, .nil, e => by simp at e
  | _, _, 0, _, .cons r _, e => by simp at e; subst e; exact ⟨_, rfl, r⟩
  | _, _, i + 1, x, .cons _ t, e => by
    obtain ⟨u, h1, h2⟩ := Vals.get (i := i) (x := x) t (by simpa using e)
    exact ⟨u, by simpa using h1, h2⟩
theorem Vals.set {x : V} {u : Value} (r : RelV x u) : ∀ {xs : List V} {us : List Value} (i : Nat), Vals xs us → Vals (xs.set i x) (us.set i u)
  | _, _, _, .nil => .nil
  | _, _, 0, .cons _ t => .cons r t
  | _, _, i + 1, .cons q t => .cons q (Vals.set r i t)
theorem Vals.append : ∀ {xs ys : List V} {us ws : List Value}, Vals xs us → Vals ys ws → Vals (xs ++ ys) (us ++ ws)
  | _, _, _, _, .nil, s => s
  | _, _, _, _, .cons r t, s => .cons r (Vals.append t s)
theorem Vals.take : ∀ {xs : List V} {us : List Value} (n : Nat), Vals xs us → Vals (xs.take n) (us.take n)
  | _, _, 0, _ => .nil
  | _, _, _ + 1, .nil => .nil
  | _, _, n + 1, .cons r t => .cons r (Vals.take n t)
theorem Vals.drop : ∀ {xs : List V} {us : List Value} (n : Nat), Vals xs us → Vals (xs.drop n) (us.drop n)
  | _, _, 0, r => r
  | _, _, _ + 1, .nil => .nil
  | _, _, n + 1, .cons _ t => Vals.drop n t
def RelO : Option V → Option Value → Prop
  | some v, some u => RelV v u
  | none, none => True
  | _, _ => False
def KV {κ : Type} : List (κ × V) → List (κ × Value) → Prop := Paired fun (p : κ × V) (q : κ × Value) => p.1 = q.1 ∧ RelV p.2 q.2

def kV : Key → V
  | .inl i => .int i
  | .inr x => .str x

inductive HO where
  /-- a list -/
  | lst (xs : List V)
  /-- a tuple (never changes) -/
  | tup (xs : List V)
  /-- a dict whose keys are ints and texts; one whose keys are tuples of ints and texts (the empty one is both) -/
  | dK (kvs : List (Key × V)) | dT (kvs : List (List Key × V))
  /-- a set of ints: its members, its size -/
  | set (S : Int → Bool) (n : Nat)
  /-- an instance of the class at C, its dict at dx, its attributes -/
  | ins (C dx : Addr) (fs : List (Str × V))
  /-- the dict of the instance at x -/
  | own (x : Addr)
  /-- the dict of an exception -/
  | xd (fs : List (Str × V))
  /-- a bound method, f of x -/
  | met (f x : Addr)
  /-- a range object lo, lo + 1, .. below hi -/
  | rng (lo hi : Int)
  /-- a thing that is known to the object (the script; a dict while a loop walks it): read, never written while it is so -/
  | frz (o : Obj) (u : HO)
  /-- a code object's table -/
  | tbl (ps : Array Value)
  /-- any other thing, by what is true of its one object (a def of one's own: SetO a S n := HO.ext fun h => ..) -/
  | ext (φ : Heap → Prop)

abbrev Hp := Addr → Option HO
def upd (H : Hp) (a : Addr) (o : HO) : Hp := fun b => if b = a then some o else H b
theorem upd_same {H : Hp} {a : Addr} {o : HO} : upd H a o a = some o := by unfold upd; rw [if_pos rfl]
theorem upd_ne {H : Hp} {a b : Addr} {o : HO} (h : b ≠ a) : upd H a o b = H b := by unfold upd; rw [if_neg h]
theorem upd_upd {H : Hp} {a : Addr} {o u : HO} : upd (upd H a o) a u = upd H a u := by
  funext b; unfold upd; split <;> rfl
theorem ne_of_none {H : Hp} {a b : Addr} {o : HO} (h : H a = some o) (h' : H b = none) : a ≠ b := by
  intro e; subst e; rw [h] at h'; cases h'

def DN (h : Heap) (a : Addr) : Prop := ∃ o, h.get? a = some o ∧ o.dict = none
section
variable (P : Program) (w : World)
def ObjOk (H : Hp) (h : Heap) (a : Addr) : HO → Prop
  | .lst xs => xs.length ≤ sizeLine ∧ ∃ (its : List Value) (n : Nat), Vals xs its ∧ h.get? a = some { cls := .type "list", data := .seq its.toArray n }
  | .tup xs => (xs.length ≤ sizeLine ∧ DN h a) ∧ ∃ its : List Value, Vals xs its ∧ IsTup h a its.toArray
  | .dK kvs => kvs.length ≤ sizeLine ∧ (a == sysModules) = false ∧ ∃ vs, KV kvs vs ∧ h.DictOf (mixKind P w) a vs
  | .dT kvs => kvs.length ≤ sizeLine ∧ (a == sysModules) = false ∧ ∃ xs : List (List Key × Addr × Value),
      Paired (fun (p : List Key × V) (q : List Key × Addr × Value) => p.1 = q.1 ∧ H q.2.1 = some (.tup (p.1.map kV)) ∧ RelV p.2 q.2.2) kvs xs ∧
      ∃ o es ep, h.get? a = some o ∧ o.ExactDict ∧ o.data = .dict es ep ∧ es.toList = xs.map (entryOfKey (tupleKind (mixKind P w))) ∧ (xs.map (·.1)).Nodup
  | .set S n => h.SetOf (intKind P w) a S n
  | .ins C dx fs => H dx = some (.own a) ∧ fs.length ≤ 1000 ∧ dx ≠ a ∧ h.get? a = some (PySem.W.instObj C dx) ∧
      ∃ mA, h.Ns1 dx mA ∧ (∀ f, RelO (fs.lookup f) (mA f)) ∧ PySem.Within mA (fs.map (·.1))
  | .own _ => ∃ o, h.get? a = some o
  | .xd fs => ∃ mA, h.Ns1 a mA ∧ ∀ f, RelO (fs.lookup f) (mA f)
  | .rng lo hi => ∃ t u v, h.get? a = some { cls := .type "range", data := .fields #[.int lo t, .int hi u, .int 1 v] }
  | .frz o u => h.get? a = some o ∧ ObjOk H h a u
  | .tbl ps => h.get? a = some { cls := .none, data := .fields ps }
  | .met f x => h.get? a = some (PySem.W.methodObj (.ref f) (.ref x))
  | .ext φ => φ h ∧ (∃ o, h.get? a = some o) ∧ ∀ h1 h2 : Heap, φ h1 → (∀ o, h1.get? a = some o → h2.get? a = some o) → φ h2
def HOk (H : Hp) (h : Heap) : Prop := ∀ a o, H a = some o → ObjOk P w H h a o
end

section
variable {P : Program} {w : World} {H H' : Hp} {h h' : Heap} {a : Addr} {o : HO}
theorem ObjOk.lt (x : ObjOk P w H h a o) : a < h.objs.size := by
  cases o with
  | lst xs => obtain ⟨_, _, _, _, e⟩ := x; exact Heap.lt_size e
  | tup xs => obtain ⟨_, _, _, p⟩ := x; exact p.lt
  | dK kvs => obtain ⟨_, _, _, _, o, _, _, e, _⟩ := x; exact Heap.lt_size e
  | dT kvs => obtain ⟨_, _, _, _, o, _, _, e, _⟩ := x; exact Heap.lt_size e
  | set S n => obtain ⟨o, _, _, _, e, _⟩ := x; exact Heap.lt_size e
  | ins C dx fs => obtain ⟨_, _, _, e, _⟩ := x; exact Heap.lt_size e
  | own y => obtain ⟨_, e⟩ := x; exact Heap.lt_size e
  | xd fs => obtain ⟨_, ⟨_, _, _, e, _⟩, _⟩ := x; exact Heap.lt_size e
  | rng lo hi => obtain ⟨_, _, _, e⟩ := x; exact Heap.lt_size e
  | frz ob u => obtain ⟨e, _⟩ := x; exact Heap.lt_size e
  | tbl ps => exact Heap.lt_size (show h.get? a = some _ from x)
  | met f y => exact Heap.lt_size (show h.get? a = some _ from x)
  | ext φ => obtain ⟨_, ⟨_, e⟩, _⟩ := x; exact Heap.lt_size e
theorem Paired.mapP {α β : Type} {F G : α → β → Prop} : ∀ {l₁ : List α} {l₂ : List β}, Paired F l₁ l₂ → (∀ a b, F a b → G a b) → Paired G l₁ l₂
  | _, _, .nil, _ => .nil
  | _, _, .cons r t, f => .cons (f _ _ r) (Paired.mapP t f)
theorem ObjOk.stay (x : ObjOk P w H h a o) (k : ∀ b u, (b = a ∨ H b = some (.own a)) → h.get? b = some u → h'.get? b = some u)
    (ho : ∀ b, H b = some (.own a) → H' b = some (.own a)) (ht : ∀ b xs, H b = some (.tup xs) → H' b = some (.tup xs)) : ObjOk P w H' h' a o := by
  induction o with
  | lst xs => obtain ⟨z, its, n, r, e⟩ := x; exact ⟨z, its, n, r, k _ _ (.inl rfl) e⟩
  | tup xs => obtain ⟨⟨z, od, e0, c0⟩, y⟩ := x; obtain ⟨its, r, ob, e, c⟩ := y; exact ⟨⟨z, od, k _ _ (.inl rfl) e0, c0⟩, its, r, ob, k _ _ (.inl rfl) e, c⟩
  | dK kvs => obtain ⟨z, y, vs, r, ob, es, ep, e, c⟩ := x; exact ⟨z, y, vs, r, ob, es, ep, k _ _ (.inl rfl) e, c⟩
  | dT kvs =>
    obtain ⟨z, y, xs, r, ob, es, ep, e, c⟩ := x
    exact ⟨z, y, xs, Paired.mapP r fun p q z => ⟨z.1, ht _ _ z.2.1, z.2.2⟩, ob, es, ep, k _ _ (.inl rfl) e, c⟩
  | set S n => obtain ⟨ob, es, ep, t, e, c⟩ := x; exact ⟨ob, es, ep, t, k _ _ (.inl rfl) e, c⟩
  | ins C dx fs =>
    obtain ⟨d, z, ne, e, mA, ⟨od, es, ep, e2, c⟩, r⟩ := x
    exact ⟨ho _ d, z, ne, k _ _ (.inl rfl) e, mA, ⟨od, es, ep, k _ _ (.inr d) e2, c⟩, r⟩
  | own y => obtain ⟨ob, e⟩ := x; exact ⟨ob, k _ _ (.inl rfl) e⟩
  | xd fs => obtain ⟨mA, ⟨od, es, ep, e, c⟩, r⟩ := x; exact ⟨mA, ⟨od, es, ep, k _ _ (.inl rfl) e, c⟩, r⟩
  | rng lo hi => obtain ⟨t, u, v, e⟩ := x; exact ⟨t, u, v, k _ _ (.inl rfl) e⟩
  | frz ob u ih => obtain ⟨e, q⟩ := x; exact ⟨k _ _ (.inl rfl) e, ih q⟩
  | tbl ps =>
    have e : h.get? a = some { cls := .none, data := .fields ps } := x
    show h'.get? a = some { cls := .none, data := .fields ps }
    exact k a _ (.inl rfl) e
  | met f y =>
    have e : h.get? a = some (PySem.W.methodObj (.ref f) (.ref y)) := x
    show h'.get? a = some (PySem.W.methodObj (.ref f) (.ref y))
    exact k a _ (.inl rfl) e
  | ext φ => obtain ⟨p, ⟨o, e⟩, st⟩ := x; exact ⟨st _ _ p fun o q => k _ _ (.inl rfl) q, ⟨o, k _ _ (.inl rfl) e⟩, st⟩
theorem HOk.lt (x : HOk P w H h) (e : H a = some o) : a < h.objs.size := (x a o e).lt
theorem HOk.fresh (x : HOk P w H h) (e : h.objs.size ≤ a) : H a = none := by
  cases q : H a with
  | none => rfl
  | some u => exact absurd (Nat.lt_of_lt_of_le (x.lt q) e) (Nat.lt_irrefl _)
theorem HOk.kept (x : HOk P w H h) (k : ∀ b u, h.get? b = some u → h'.get? b = some u) : HOk P w H h' := fun a o e =>
  (x a o e).stay (fun b u _ q => k b u q) (fun _ q => q) fun _ _ q => q
theorem HOk.laid (x : HOk P w H h) (k : ∀ b u, h.get? b = some u → h'.get? b = some u) (hp : h.objs.size ≤ a) (new : ObjOk P w (upd H a o) h' a o) : HOk P w (upd H a o) h' := fun b u e => by
  have hn := x.fresh hp
  by_cases hb : b = a
  · subst hb; rw [upd_same] at e; cases e; exact new
  · rw [upd_ne hb] at e
    exact (x b u e).stay (fun c v _ q => k c v q) (fun c q => by rw [upd_ne (ne_of_none q hn)]; exact q) fun c xs q => by rw [upd_ne (ne_of_none q hn)]; exact q
end

def Rd (H : Hp) (a : Addr) (u : HO) : Prop := H a = some u ∨ ∃ o, H a = some (.frz o u)
theorem Rd.of {H : Hp} {a : Addr} {u : HO} (h : H a = some u) : Rd H a u := .inl h
theorem Rd.ok {P : Program} {w : World} {H : Hp} {h : Heap} {a : Addr} {u : HO} (r : Rd H a u) (x : HOk P w H h) : ObjOk P w H h a u := by
  rcases r with r | ⟨o, r⟩
  · exact x a u r
  · obtain ⟨_, q⟩ := x a _ r
    exact q
def Mut : Option HO → Prop
  | some (.lst _) => True
  | some (.dK _) => True
  | some (.dT _) => True
  | some (.set _ _) => True
  | some (.ins _ _ _) => True
  | some (.ext _) => True
  | _ => False
section
variable {P : Program} {w : World} {H : Hp} {h h' : Heap} {x e : Addr} {o' : HO}
theorem HOk.write (ok : HOk P w H h) (mu : Mut (H x)) (he : e = x ∨ H e = some (.own x)) (k : ∀ b u, b ≠ e → h.get? b = some u → h'.get? b = some u) (heo : ∃ u, h'.get? e = some u)
    (new : ObjOk P w (upd H x o') h' x o') : HOk P w (upd H x o') h' := fun b u q => by
  have nown : ∀ c y, H c = some (.own y) → c ≠ x := fun c y r z => by subst z; rw [r] at mu; exact mu
  have ntup : ∀ c xs, H c = some (.tup xs) → c ≠ x := fun c xs r z => by subst z; rw [r] at mu; exact mu
  by_cases hb : b = x
  · subst hb; rw [upd_same] at q; cases q; exact new
  · rw [upd_ne hb] at q
    by_cases hbe : b = e
    · have q' : H b = some (.own x) := by
        rcases he with z | z
        · exact absurd (hbe.trans z) hb
        · rw [hbe]; exact z
      rw [q] at q'; cases q'
      obtain ⟨v, hv⟩ := heo
      exact ⟨v, by rw [hbe]; exact hv⟩
    · refine (ok b u q).stay (fun c v hc r => k c v ?_ r) (fun c r => by rw [upd_ne (nown c b r)]; exact r) fun c xs r => by rw [upd_ne (ntup c xs r)]; exact r
      rcases hc with rfl | hc
      · exact hbe
      · rintro rfl
        rcases he with z | z
        · exact nown c b hc z
        · rw [hc] at z; cases z; exact hb rfl
end

structure Un (fs ex : List Addr) (H H' : Hp) (h h' : Heap) : Prop where
  keep : ∀ b o, h.get? b = some o → H b = none → b ∉ fs → b ∉ ex → h'.get? b = some o
  slot : ∀ b o, h.get? b = some o → H b = none → b ∈ fs → b ∉ ex → ∃ sl, h'.get? b = some { o with slots := sl }
  free : ∀ b o, h.get? b = some o → H b = none → b ∉ ex → H' b = none
  there : ∀ b o, h.get? b = some o → b ∉ ex → ∃ o', h'.get? b = some o'
  tups : ∀ b xs, H b = some (.tup xs) → H' b = some (.tup xs)
  frzs : ∀ b o u, H b = some (.frz o u) → H' b = some (.frz o u)
  tbls : ∀ b ps, H b = some (.tbl ps) → ∃ more, H' b = some (.tbl (ps ++ more))
section
variable {fs fs' ex ex' : List Addr} {H H1 H2 : Hp} {h h1 h2 h' : Heap} {a x e : Addr} {o : HO}
theorem Un.any (u : Un fs ex H H1 h h1) {b : Addr} {ob : Obj} (q : h.get? b = some ob) (n : H b = none) (hx : b ∉ ex) : ∃ sl, h1.get? b = some { ob with slots := sl } := by
  by_cases hb : b ∈ fs
  · exact u.slot b ob q n hb hx
  · exact ⟨ob.slots, u.keep b ob q n hb hx⟩
theorem Un.trans (a : Un fs ex H H1 h h1) (b : Un fs ex H1 H2 h1 h2) : Un fs ex H H2 h h2 where
  keep := fun c ob q n hc hx => b.keep c ob (a.keep c ob q n hc hx) (a.free c ob q n hx) hc hx
  slot := fun c ob q n hc hx => by
    obtain ⟨sl, e1⟩ := a.slot c ob q n hc hx
    obtain ⟨sl', e2⟩ := b.slot c _ e1 (a.free c ob q n hx) hc hx
    exact ⟨sl', e2⟩
  free := fun c ob q n hx => by
    obtain ⟨o', e1⟩ := a.there c ob q hx
    exact b.free c o' e1 (a.free c ob q n hx) hx
  there := fun c ob q hx => by
    obtain ⟨o', e1⟩ := a.there c ob q hx
    exact b.there c o' e1 hx
  tups := fun c xs q => b.tups c xs (a.tups c xs q)
  frzs := fun c ob xs q => b.frzs c ob xs (a.frzs c ob xs q)
  tbls := fun c ps q => by
    obtain ⟨m1, e1⟩ := a.tbls c ps q
    obtain ⟨m2, e2⟩ := b.tbls c _ e1
    exact ⟨m1 ++ m2, by rw [e2, Array.append_assoc]⟩
theorem Un.kept (k : ∀ b u, h.get? b = some u → h'.get? b = some u) : Un fs ex H H h h' :=
  ⟨fun b ob q _ _ _ => k b ob q, fun b ob q _ _ _ => ⟨ob.slots, k b ob q⟩, fun _ _ _ n _ => n, fun b ob q _ => ⟨ob, k b ob q⟩, fun _ _ q => q, fun _ _ _ q => q, fun _ ps q => ⟨#[], by rw [q]; simp⟩⟩
theorem Un.refl : Un fs ex H H h h := Un.kept fun _ _ q => q
theorem Un.laid (k : ∀ b u, h.get? b = some u → h'.get? b = some u) (hp : h.objs.size ≤ a) (hn : H a = none) : Un fs ex H (upd H a o) h h' where
  keep := fun b u q _ _ _ => k b u q
  slot := fun b u q _ _ _ => ⟨u.slots, k b u q⟩
  free := fun b u q n _ => by rw [upd_ne (Nat.ne_of_lt (Nat.lt_of_lt_of_le (Heap.lt_size q) hp))]; exact n
  there := fun b u q _ => ⟨u, k b u q⟩
  tups := fun b xs q => by rw [upd_ne (ne_of_none q hn)]; exact q
  frzs := fun b u xs q => by rw [upd_ne (ne_of_none q hn)]; exact q
  tbls := fun b ps q => ⟨#[], by rw [upd_ne (ne_of_none q hn), q]; simp⟩
theorem Un.write (mu : Mut (H x)) (he : e = x ∨ H e = some (.own x)) (k : ∀ b u, b ≠ e → h.get? b = some u → h'.get? b = some u) (heo : ∃ u, h'.get? e = some u) : Un fs ex H (upd H x o) h h' := by
  have hx : ∀ b, H b = none → b ≠ x := fun b n z => by subst z; rw [n] at mu; exact mu
  have hb : ∀ b, H b = none → b ≠ e := fun b n z => by
    subst z
    rcases he with r | r
    · exact hx b n r
    · rw [n] at r; cases r
  have hm : ∀ b u, H b = some u → ¬ Mut (some u) → b ≠ x := fun b u q nm z => by subst z; rw [q] at mu; exact nm mu
  refine ⟨fun b u q n _ _ => k b u (hb b n) q, fun b u q n _ _ => ⟨u.slots, k b u (hb b n) q⟩, fun b u q n _ => by rw [upd_ne (hx b n)]; exact n, fun b u q _ => ?_,
    fun b xs q => by rw [upd_ne (hm b _ q fun z => z)]; exact q, fun b u xs q => by rw [upd_ne (hm b _ q fun z => z)]; exact q, fun b ps q => ⟨#[], by rw [upd_ne (hm b _ q fun z => z), q]; simp⟩⟩
  by_cases hbe : b = e
  · subst hbe; exact heo
  · exact ⟨u, k b u hbe q⟩
end

def trk (h : Heap) (H : Hp) : List Addr := (List.range h.objs.size).filter fun a => (H a).isSome
def hidT (h : Heap) (H : Hp) : Heap := PySem.W.hideAll h (trk h H)
theorem hidT_size (h : Heap) (H : Hp) : (hidT h H).objs.size = h.objs.size := PySem.W.hideAll_size _ _
theorem hidT_get {h : Heap} {H : Hp} {b : Addr} {o : Obj} (e : h.get? b = some o) (n : H b = none) : (hidT h H).get? b = some o :=
  PySem.W.hideAll_get _ e fun hm => by
    have q : (H b).isSome = true := (List.mem_filter.mp hm).2
    rw [n] at q; simp at q
theorem of_hidT {h : Heap} {H : Hp} {b : Addr} {o : Obj} (e : (hidT h H).get? b = some o) : h.get? b = some o ∧ H b = none := by
  have e' : h.get? b = some o := PySem.W.of_hideAll (trk h H) e
  refine ⟨e', ?_⟩
  cases q : H b with
  | none => rfl
  | some x =>
    have hm : b ∈ trk h H := List.mem_filter.mpr ⟨List.mem_range.mpr (Heap.lt_size e'), by simp [q]⟩
    have z : (hidT h H).get? b = none := PySem.W.hideAll_none (trk h H) hm
    rw [z] at e; cases e

def allNews (g h : Heap) (L : Addr) : List (Addr × Obj) := (List.range h.objs.size).filterMap fun a => if a = L ∨ (g.get? a).isSome = true then none else (h.get? a).map fun o => (a, o)
def rest (g h : Heap) (L d : Addr) : List (Addr × Obj) := (allNews g h L).filter fun p => decide (p.1 ≠ d)
end L2

namespace L2
open PySem PySem.Spec PyProof.Rows

structure Mod (K : PySem.W.Frag) (mg : Str → Option Value) (base : Heap) : Prop where
  kin : K.In base
  glob : base.Ns mainGlobals mg
  blt : ∃ mb, base.Ns builtinsNs mb ∧ ∀ x : Str, x ≠ "__name__" → mb x = bootBuiltins x
  nolimit : base.NoLimit

structure Cx where
  prog : Program
  w : World
  K : PySem.W.Frag
  mg : Str → Option Value
  base : Heap
  A : Around
  N : List Str
  s₀ : Shared
  H₀ : Hp
  env : Env
  outer : List Env
  stack : List Env
  ex : List Addr
  fn : Str → Bool
  calm : Bool
  pn : List (Addr × Obj)
  xe : Value → Shared → Prop
def frs (l : List Env) : List Addr := l.filterMap (·.frame)
abbrev Cx.fs (X : Cx) : List Addr := frs X.outer

def Vis (sc : Scope) (x : Str) : Prop := sc.names.lookup x = some .local ∨ sc.names.lookup x = some .cell ∨ sc.names.lookup x = some .free
def Loc (sc : Scope) (x : Str) : Prop := sc.names.lookup x = some .local ∨ sc.names.lookup x = some .cell
def Look (env : Env) (h : Heap) (m : Str → Option Value) (x : Str) (u : Value) : Prop :=
  (env.kindOf x = some .local ∧ m x = some u) ∨ ((env.kindOf x = some .cell ∨ env.kindOf x = some .free) ∧ ∃ c, env.cells.lookup x = some c ∧ h.IsCell c (some u))

structure Cx.Ok (X : Cx) : Prop where
  mod : Mod X.K X.mg X.base
  kind : X.env.scope.kind = .function
  glob : X.env.globals = mainGlobals
  blt : X.env.builtins = builtinsNs
  above : X.s₀.heap.objs.size ≤ X.env.locals
  inj : ∀ x y c, X.env.cells.lookup x = some c → X.env.cells.lookup y = some c → x = y
  has : ∀ x, (X.env.kindOf x = some .cell ∨ X.env.kindOf x = some .free) → ∃ c, X.env.cells.lookup x = some c
  cab : ∀ x c, X.fn x = true → X.env.cells.lookup x = some c → X.s₀.heap.objs.size ≤ c
  hd : X.calm = true → X.A.handled = none
  frames : X.A.frames = some X.stack
  stk : X.stack = X.outer ∨ (X.stack = X.env :: X.outer ∧ X.env.frame = some X.env.locals)
  exf : ∀ b ∈ X.ex, b ≠ X.env.locals ∧ ∀ x c, X.env.cells.lookup x = some c → c ≠ b
  bs : ∀ b o, X.base.get? b = some o → X.s₀.heap.get? b = some o ∧ X.H₀ b = none
  bsz : X.base.objs.size ≤ X.s₀.heap.objs.size
  noex : ∀ b o, X.base.get? b = some o → b ∉ X.ex
  exfs : ∀ b ∈ X.ex, b ∉ X.fs
  funs : X.s₀.heap.FunFrames X.base X.outer
  frf : ∀ b ∈ X.fs, X.H₀ b = none

structure Inv (X : Cx) (pins : List (Addr × Obj)) (σ : List (Option V)) (H : Hp) (s : Shared) : Prop where
  ok : X.Ok
  os : s.os = X.s₀.os
  bare : AllBare s.gens
  base : Un X.fs X.ex X.H₀ H X.s₀.heap s.heap
  loc : ∃ m, s.heap.Ns X.env.locals m ∧ ∀ (i : Nat) (x : Str) (v : V), X.N[i]? = some x → σ[i]? = some (some v) → Vis X.env.scope x → ∃ u, RelV v u ∧ Look X.env s.heap m x u
  cell : ∀ x c, X.env.cells.lookup x = some c → ∃ v, s.heap.IsCell c v
  free : H X.env.locals = none
  freeC : ∀ x c, X.env.cells.lookup x = some c → H c = none
  pin : ∀ p ∈ X.pn ++ pins, s.heap.get? p.1 = some p.2 ∧ H p.1 = none ∧ p.1 ≠ X.env.locals ∧ p.1 ∉ X.fs ∧ ∀ v, p.2.data ≠ .cell v
  hok : HOk X.prog X.w H s.heap
  len : σ.length = X.N.length

section
variable {X : Cx} {pins : List (Addr × Obj)} {σ : List (Option V)} {H H' : Hp} {s : Shared} {h' : Heap}

theorem Cx.Ok.nofr (ok : X.Ok) {b : Addr} {o : Obj} (e : X.base.get? b = some o) : b ∉ X.fs := fun hb => by
  have := (ok.funs.mem hb).1
  rw [e] at this; cases this
theorem Inv.bs (I : Inv X pins σ H s) : ∀ b o, X.base.get? b = some o → s.heap.get? b = some o ∧ H b = none := fun b o e =>
  ⟨I.base.keep b o (I.ok.bs b o e).1 (I.ok.bs b o e).2 (I.ok.nofr e) (I.ok.noex b o e), I.base.free b o (I.ok.bs b o e).1 (I.ok.bs b o e).2 (I.ok.noex b o e)⟩
theorem Inv.bk (I : Inv X pins σ H s) : ∀ b o, X.base.get? b = some o → s.heap.get? b = some o := fun b o e => (I.bs b o e).1
theorem Inv.mod (I : Inv X pins σ H s) : Mod X.K X.mg X.base := I.ok.mod
theorem Inv.kIn (I : Inv X pins σ H s) : X.K.In s.heap := I.ok.mod.kin.keeps I.bk
theorem Inv.nolimit (I : Inv X pins σ H s) : s.heap.NoLimit := I.ok.mod.nolimit.keeps I.bk
theorem Inv.lt (I : Inv X pins σ H s) : X.env.locals < s.heap.objs.size := let ⟨_, hn, _⟩ := I.loc; hn.lt
theorem Inv.sz (I : Inv X pins σ H s) : X.s₀.heap.objs.size ≤ s.heap.objs.size := Nat.le_trans I.ok.above (Nat.le_of_lt I.lt)
theorem Inv.nofs (I : Inv X pins σ H s) {a : Addr} (h : s.heap.objs.size ≤ a) : a ∉ X.fs := fun hb => by
  obtain ⟨_, o, ho, _⟩ := I.ok.funs.mem hb
  exact absurd (Nat.lt_of_lt_of_le (Heap.lt_size ho) (Nat.le_trans I.sz h)) (Nat.lt_irrefl _)
theorem Inv.cne (I : Inv X pins σ H s) : ∀ x c, X.env.cells.lookup x = some c → c ≠ X.env.locals := fun x c e z => by
  obtain ⟨v, o, ho, hd⟩ := I.cell x c e
  obtain ⟨m, ⟨o', es, ep, ho', hd', _⟩, _⟩ := I.loc
  rw [z, ho'] at ho; cases ho; rw [hd'] at hd; cases hd
theorem Inv.funs (I : Inv X pins σ H s) : s.heap.FunFrames X.base X.outer := by
  have all : ∀ (l : List Env), (∀ b ∈ frs l, b ∈ X.fs) → X.s₀.heap.FunFrames X.base l → s.heap.FunFrames X.base l := by
    intro l
    induction l with
    | nil => intro _ _; trivial
    | cons env r ih =>
      intro hs hl
      obtain ⟨hk, ⟨L, o, hf, hn, ho, hd⟩, hr⟩ := hl
      have hL : L ∈ X.fs := hs L (by unfold frs; rw [List.filterMap_cons, hf]; exact List.mem_cons_self)
      obtain ⟨sl, e⟩ := I.base.slot L o ho (I.ok.frf L hL) hL fun z => I.ok.exfs L z hL
      exact ⟨hk, ⟨L, _, hf, hn, e, hd⟩, ih (fun b hb => hs b (by unfold frs; rw [List.filterMap_cons, hf]; exact List.mem_cons_of_mem _ hb)) hr⟩
  exact all X.outer (fun _ hb => hb) I.ok.funs

theorem Inv.stack (I : Inv X pins σ H s) : s.heap.FunFrames X.base X.stack := by
  rcases I.ok.stk with e | ⟨e, hf⟩
  · rw [e]; exact I.funs
  · rw [e]
    obtain ⟨m, hn, _⟩ := I.loc
    refine .cons (by rw [I.ok.kind]; decide) hf hn ?_ I.funs
    exact Heap.get?_none_of_le (Nat.le_trans I.ok.bsz I.ok.above)
theorem Inv.stkSub (I : Inv X pins σ H s) : ∀ b ∈ frs X.stack, b ∈ X.env.locals :: X.fs := fun b hb => by
  rcases I.ok.stk with e | ⟨e, hf⟩
  · rw [e] at hb; exact List.mem_cons_of_mem _ hb
  · rw [e] at hb
    unfold frs at hb
    rw [List.filterMap_cons, hf] at hb
    exact hb
theorem Inv.stkFree (I : Inv X pins σ H s) : ∀ b ∈ frs X.stack, H b = none := fun b hb => by
  rcases List.mem_cons.mp (I.stkSub b hb) with e | hb
  · rw [e]; exact I.free
  · obtain ⟨_, o, ho, _⟩ := I.ok.funs.mem hb
    exact I.base.free b o ho (I.ok.frf b hb) fun z => I.ok.exfs b z hb

theorem Inv.step {g' : Array GenState} {t' : Nat} {d' : Drawn} {ch : List Addr} (I : Inv X pins σ H s)
    (hch : ∀ b ∈ ch, (b ∈ X.ex ∨ X.s₀.heap.objs.size ≤ b) ∧ b ≠ X.env.locals ∧ (∀ x c, X.env.cells.lookup x = some c → c ≠ b) ∧ ∀ p ∈ X.pn ++ pins, p.1 ≠ b)
    (keep : ∀ b o, b ≠ X.env.locals → b ∉ X.fs → b ∉ ch → s.heap.get? b = some o → H b = none → h'.get? b = some o)
    (slot : ∀ b o, b ≠ X.env.locals → b ∈ X.fs → b ∉ ch → s.heap.get? b = some o → H b = none → ∃ sl, h'.get? b = some { o with slots := sl }) (free : ∀ b o, b ∉ ch → s.heap.get? b = some o → H b = none → H' b = none)
    (there : ∀ b o, b ∉ ch → s.heap.get? b = some o → ∃ o', h'.get? b = some o')
    (tups : ∀ b xs, H b = some (.tup xs) → H' b = some (.tup xs)) (frzs : ∀ b o u, H b = some (.frz o u) → H' b = some (.frz o u)) (tbls : ∀ b ps, H b = some (.tbl ps) → ∃ more, H' b = some (.tbl (ps ++ more)))
    (ns : ∀ m, s.heap.Ns X.env.locals m → h'.Ns X.env.locals m) (hok : HOk X.prog X.w H' h') (hg : AllBare g') :
    Inv X pins σ H' { s with heap := h', gens := g', drawn := d', toks := t' } := by
  have neL : ∀ b o, X.s₀.heap.get? b = some o → b ≠ X.env.locals := fun b o e => Nat.ne_of_lt (Nat.lt_of_lt_of_le (Heap.lt_size e) I.ok.above)
  have neC : ∀ b o, X.s₀.heap.get? b = some o → b ∉ X.ex → b ∉ ch := fun b o e hx hb => by
    rcases (hch b hb).1 with z | z
    · exact hx z
    · exact absurd (Nat.lt_of_lt_of_le (Heap.lt_size e) z) (Nat.lt_irrefl _)
  have cellK : ∀ x c, X.env.cells.lookup x = some c → ∀ v, s.heap.IsCell c v → h'.IsCell c v := fun x c e v ⟨o, ho, hd⟩ => by
    have nch : c ∉ ch := fun z => (hch c z).2.2.1 x c e rfl
    by_cases hc : c ∈ X.fs
    · obtain ⟨sl, q⟩ := slot c o (I.cne x c e) hc nch ho (I.freeC x c e)
      exact ⟨_, q, hd⟩
    · exact ⟨o, keep c o (I.cne x c e) hc nch ho (I.freeC x c e), hd⟩
  refine ⟨I.ok, I.os, hg, ⟨fun b o e n hb hx => ?_, fun b o e n hb hx => ?_, fun b o e n hx => ?_, fun b o e hx => ?_, fun b xs e => tups b xs (I.base.tups b xs e), fun b o xs e => frzs b o xs (I.base.frzs b o xs e), fun b ps e => ?_⟩, ?_, fun x c e => ?_, ?_, fun x c e => ?_, fun p hp => ?_, hok, I.len⟩
  · exact keep b o (neL b o e) hb (neC b o e hx) (I.base.keep b o e n hb hx) (I.base.free b o e n hx)
  · obtain ⟨sl, e1⟩ := I.base.slot b o e n hb hx
    obtain ⟨sl', e2⟩ := slot b _ (neL b o e) hb (neC b o e hx) e1 (I.base.free b o e n hx)
    exact ⟨sl', e2⟩
  · obtain ⟨o', e1⟩ := I.base.there b o e hx
    exact free b o' (neC b o e hx) e1 (I.base.free b o e n hx)
  · obtain ⟨o', e1⟩ := I.base.there b o e hx
    exact there b o' (neC b o e hx) e1
  · obtain ⟨m1, e1⟩ := I.base.tbls b ps e
    obtain ⟨m2, e2⟩ := tbls b _ e1
    exact ⟨m1 ++ m2, by rw [e2, Array.append_assoc]⟩
  · obtain ⟨m, hn, hl⟩ := I.loc
    refine ⟨m, ns m hn, fun i x v e1 e2 e3 => ?_⟩
    obtain ⟨u, r, l⟩ := hl i x v e1 e2 e3
    refine ⟨u, r, ?_⟩
    rcases l with l | ⟨k, c, e, z⟩
    · exact .inl l
    · exact .inr ⟨k, c, e, cellK x c e _ z⟩
  · obtain ⟨v, z⟩ := I.cell x c e
    exact ⟨v, cellK x c e v z⟩
  · obtain ⟨m, ⟨o, _, _, ho, _⟩, _⟩ := I.loc
    exact free _ o (fun z => (hch _ z).2.1 rfl) ho I.free
  · obtain ⟨v, o, ho, hd⟩ := I.cell x c e
    exact free c o (fun z => (hch c z).2.2.1 x c e rfl) ho (I.freeC x c e)
  · obtain ⟨e, n, ne, nf, d⟩ := I.pin p hp
    have nch : p.1 ∉ ch := fun z => (hch p.1 z).2.2.2 p hp rfl
    exact ⟨keep p.1 p.2 ne nf nch e n, free p.1 p.2 nch e n, ne, nf, d⟩
theorem Inv.un {t' : Nat} (I : Inv X pins σ H s) (u : Un X.fs [] H H' s.heap h') (hok : HOk X.prog X.w H' h') : Inv X pins σ H' { s with heap := h', toks := t' } := by
  obtain ⟨m, ⟨o, es, ep, ho, r⟩, _⟩ := id I.loc
  obtain ⟨sl, hL⟩ := u.any ho I.free (by simp)
  exact I.step (g' := s.gens) (d' := s.drawn) (ch := []) (fun _ z => nomatch z) (fun b o _ hb _ e n => u.keep b o e n hb (by simp)) (fun b o _ hb _ e n => u.slot b o e n hb (by simp)) (fun b o _ e n => u.free b o e n (by simp)) (fun b o _ e => u.there b o e (by simp)) u.tups u.frzs u.tbls (fun m' hm => by
    obtain ⟨o', es', ep', ho', r'⟩ := hm
    rw [ho] at ho'; cases ho'
    exact ⟨_, es', ep', hL, r'⟩) hok I.bare
theorem Inv.call {g' : Array GenState} {t' : Nat} {d' : Drawn} {ch : List Addr} (I : Inv X pins σ H s) (u : Un (frs X.stack) ch H H' s.heap h') (hok : HOk X.prog X.w H' h') (hg : AllBare g')
    (hch : ∀ b ∈ ch, (b ∈ X.ex ∨ X.s₀.heap.objs.size ≤ b) ∧ b ≠ X.env.locals ∧ (∀ x c, X.env.cells.lookup x = some c → c ≠ b) ∧ ∀ p ∈ X.pn ++ pins, p.1 ≠ b) :
    Inv X pins σ H' { s with heap := h', gens := g', drawn := d', toks := t' } := by
  obtain ⟨m, ⟨o, es, ep, ho, r⟩, _⟩ := id I.loc
  obtain ⟨sl, hL⟩ := u.any ho I.free fun z => (hch _ z).2.1 rfl
  exact I.step (ch := ch) hch (fun b o hL hb hc e n => u.keep b o e n (fun z => (List.mem_cons.mp (I.stkSub b z)).elim hL hb) hc) (fun b o _ _ hc e n => u.any e n hc) (fun b o hc e n => u.free b o e n hc) (fun b o hc e => u.there b o e hc) u.tups u.frzs u.tbls (fun m' hm => by
    obtain ⟨o', es', ep', ho', r'⟩ := hm
    rw [ho] at ho'; cases ho'
    exact ⟨_, es', ep', hL, r'⟩) hok hg
theorem Inv.turned {t' : Nat} {it : Addr} (I : Inv X pins σ H s) (k : ∀ b o, b ≠ it → s.heap.get? b = some o → h'.get? b = some o) (hn : H it = none) (hL : it ≠ X.env.locals)
    (h1 : it ∈ X.ex ∨ X.s₀.heap.objs.size ≤ it) (h2 : ∀ x c, X.env.cells.lookup x = some c → c ≠ it) (h3 : ∀ p ∈ X.pn ++ pins, p.1 ≠ it) : Inv X pins σ H { s with heap := h', toks := t' } := by
  have nit : ∀ b u, H b = some u → b ≠ it := fun b u e z => by rw [z, hn] at e; cases e
  refine I.step (g' := s.gens) (d' := s.drawn) (ch := [it]) (fun b hb => ?_) (fun b o _ _ hc e _ => k b o (fun z => hc (by simp [z])) e) (fun b o _ _ hc e _ => ⟨o.slots, k b o (fun z => hc (by simp [z])) e⟩) (fun _ _ _ _ n => n)
    (fun b o hc e => ⟨o, k b o (fun z => hc (by simp [z])) e⟩) (fun _ _ e => e) (fun _ _ _ e => e) (fun b ps e => ⟨#[], by rw [e]; simp⟩) (fun m hm => ?_) (fun b u e => ?_) I.bare
  · have e : b = it := by simpa using hb
    subst e
    exact ⟨h1, hL, h2, h3⟩
  · obtain ⟨o, es, ep, ho, r⟩ := hm
    exact ⟨o, es, ep, k _ o (Ne.symm hL) ho, r⟩
  · refine (I.hok b u e).stay (fun c v hc q => k c v ?_ q) (fun _ q => q) fun _ _ q => q
    rcases hc with z | z
    · rw [z]; exact nit b u e
    · exact nit c _ z
theorem Inv.tok (I : Inv X pins σ H s) (t : Nat) : Inv X pins σ H { s with toks := t } := I.un (h' := s.heap) (t' := t) Un.refl I.hok
theorem Inv.kept {t' : Nat} (I : Inv X pins σ H s) (k : ∀ b u, s.heap.get? b = some u → h'.get? b = some u) : Inv X pins σ H { s with heap := h', toks := t' } := I.un (Un.kept k) (I.hok.kept k)
theorem Inv.laid {a : Addr} {o : HO} {t' : Nat} (I : Inv X pins σ H s) (k : ∀ b u, s.heap.get? b = some u → h'.get? b = some u) (hp : s.heap.objs.size ≤ a) (new : ObjOk X.prog X.w (upd H a o) h' a o) :
    Inv X pins σ (upd H a o) { s with heap := h', toks := t' } := I.un (Un.laid k hp (I.hok.fresh hp)) (I.hok.laid k hp new)
theorem Inv.write {x e : Addr} {o : HO} {t' : Nat} (I : Inv X pins σ H s) (mu : Mut (H x)) (he : e = x ∨ H e = some (.own x)) (k : ∀ b u, b ≠ e → s.heap.get? b = some u → h'.get? b = some u) (heo : ∃ u, h'.get? e = some u)
    (new : ObjOk X.prog X.w (upd H x o) h' x o) : Inv X pins σ (upd H x o) { s with heap := h', toks := t' } := I.un (Un.write mu he k heo) (I.hok.write mu he k heo new)
theorem Inv.pins_of {pins' : List (Addr × Obj)} (I : Inv X pins σ H s) (h : ∀ p ∈ pins', s.heap.get? p.1 = some p.2 ∧ H p.1 = none ∧ p.1 ≠ X.env.locals ∧ p.1 ∉ X.fs ∧ ∀ v, p.2.data ≠ .cell v) : Inv X pins' σ H s :=
  ⟨I.ok, I.os, I.bare, I.base, I.loc, I.cell, I.free, I.freeC, fun p hp => (List.mem_append.mp hp).elim (fun z => I.pin p (List.mem_append_left _ z)) (h p), I.hok, I.len⟩

theorem nodup_ix {N : List Str} (hN : N.Nodup) {i j : Nat} {x : Str} (a : N[i]? = some x) (b : N[j]? = some x) : i = j := by
  obtain ⟨h1, e1⟩ := List.getElem?_eq_some_iff.mp a
  obtain ⟨h2, e2⟩ := List.getElem?_eq_some_iff.mp b
  exact (List.getElem_inj hN).mp (e1.trans e2.symm)

theorem store_ok2 {M : Model} {A : Around} {E : Value → Shared → Prop} {i : Nat} {x : Str} {v : V} {u : Value} {Q : Unit → Shared → Prop} (I : Inv X pins σ H s) (hN : X.N.Nodup) (hi : X.N[i]? = some x) (hx : Loc X.env.scope x) (r : RelV v u)
    (h : ∀ s', Inv X pins (σ.set i (some v)) H s' → (∃ a, Heap.SameBut a s.heap s'.heap ∧ (a = X.env.locals ∨ X.env.cells.lookup x = some a)) → Q () s') (hf : X.fn x = true ∨ X.env.scope.names.lookup x = some .local := by first | exact .inl rfl | exact .inr rfl | assumption) : wpAny M A (storeName X.env x u) Q E s := by
  obtain ⟨m, hn, hl⟩ := id I.loc
  have hcls : (X.env.scope.kind == .class || (X.env.scope.kind == .module && X.env.locals != X.env.globals)) = false := by rw [I.ok.kind]; rfl
  have hiσ : i < σ.length := by rw [I.len]; exact (List.getElem?_eq_some_iff.mp hi).1
  have cne := I.cne
  have tracked : ∀ {a : Addr} {h' : Heap}, (∃ o, s.heap.get? a = some o ∧ H a = none) → Heap.SameBut a s.heap h' → HOk X.prog X.w H h' := fun {a h'} ha hs b ob e => by
    obtain ⟨_, _, hfree⟩ := ha
    refine (I.hok b ob e).stay (fun c w' hc q => (hs.2 c ?_).trans q) (fun _ q => q) fun _ _ q => q
    rintro rfl
    rcases hc with rfl | hc
    · rw [hfree] at e; cases e
    · rw [hfree] at hc; cases hc
  rcases hx with hk | hk
  · refine wpAny_storeName_local hk hn (fun h' hn' hs => ?_) hcls
    obtain ⟨oL, _, _, hoL, _⟩ := id hn
    refine h _ ⟨I.ok, I.os, I.bare, ⟨fun b o e n hb hx => ?_, fun b o e n hb hx => ?_, I.base.free, fun b o e hx => ?_, I.base.tups, I.base.frzs, I.base.tbls⟩, ⟨_, hn', fun j y v' e1 e2 e3 => ?_⟩, fun y c e => ?_, I.free, I.freeC, fun p hp => ?_, tracked ⟨oL, hoL, I.free⟩ hs, by simpa using I.len⟩ ⟨_, hs, .inl rfl⟩
    · exact (hs.2 b (Nat.ne_of_lt (Nat.lt_of_lt_of_le (Heap.lt_size e) I.ok.above))).trans (I.base.keep b o e n hb hx)
    · obtain ⟨sl, e1⟩ := I.base.slot b o e n hb hx
      exact ⟨sl, (hs.2 b (Nat.ne_of_lt (Nat.lt_of_lt_of_le (Heap.lt_size e) I.ok.above))).trans e1⟩
    · obtain ⟨o', e1⟩ := I.base.there b o e hx
      exact ⟨o', (hs.2 b (Nat.ne_of_lt (Nat.lt_of_lt_of_le (Heap.lt_size e) I.ok.above))).trans e1⟩
    · by_cases hj : j = i
      · subst hj
        rw [hi] at e1; cases e1
        rw [List.getElem?_set_self hiσ] at e2
        cases e2
        exact ⟨u, r, .inl ⟨hk, by simp⟩⟩
      · rw [List.getElem?_set_ne (Ne.symm hj)] at e2
        obtain ⟨u', r', q⟩ := hl j y v' e1 e2 e3
        refine ⟨u', r', ?_⟩
        rcases q with ⟨k, e⟩ | ⟨k, c, e, z⟩
        · refine .inl ⟨k, ?_⟩
          have : y ≠ x := fun e => hj (nodup_ix hN e1 (e ▸ hi))
          simp [this, e]
        · exact .inr ⟨k, c, e, z.sameBut hs (cne y c e)⟩
    · obtain ⟨w', z⟩ := I.cell y c e
      exact ⟨w', z.sameBut hs (cne y c e)⟩
    · obtain ⟨e, n, ne, nf, d⟩ := I.pin p hp
      exact ⟨(hs.2 p.1 ne).trans e, n, ne, nf, d⟩
  · have hfn : X.fn x = true := by
      rcases hf with z | z
      · exact z
      · rw [z] at hk; cases hk
    obtain ⟨c, hc⟩ := I.ok.has x (.inl hk)
    obtain ⟨w', z⟩ := I.cell x c hc
    refine wpAny_storeName_cell I.ok.kind hk hc z (fun h' hc' hs => ?_)
    obtain ⟨oc, hoc, hocd⟩ := id z
    refine h { s with heap := h' } ⟨I.ok, I.os, I.bare, ⟨fun b o e n hb hx => ?_, fun b o e n hb hx => ?_, I.base.free, fun b o e hx => ?_, I.base.tups, I.base.frzs, I.base.tbls⟩, ⟨m, hn.sameBut hs (Ne.symm (cne x c hc)), fun j y v' e1 e2 e3 => ?_⟩, fun y c' e => ?_, I.free, I.freeC, fun p hp => ?_, tracked ⟨oc, hoc, I.freeC x c hc⟩ hs, by simpa using I.len⟩ ⟨c, hs, .inr hc⟩
    · exact (hs.2 b (Nat.ne_of_lt (Nat.lt_of_lt_of_le (Heap.lt_size e) (I.ok.cab x c hfn hc)))).trans (I.base.keep b o e n hb hx)
    · obtain ⟨sl, e1⟩ := I.base.slot b o e n hb hx
      exact ⟨sl, (hs.2 b (Nat.ne_of_lt (Nat.lt_of_lt_of_le (Heap.lt_size e) (I.ok.cab x c hfn hc)))).trans e1⟩
    · obtain ⟨o', e1⟩ := I.base.there b o e hx
      exact ⟨o', (hs.2 b (Nat.ne_of_lt (Nat.lt_of_lt_of_le (Heap.lt_size e) (I.ok.cab x c hfn hc)))).trans e1⟩
    · by_cases hj : j = i
      · subst hj
        rw [hi] at e1; cases e1
        rw [List.getElem?_set_self hiσ] at e2
        cases e2
        exact ⟨u, r, .inr ⟨.inl hk, c, hc, hc'⟩⟩
      · rw [List.getElem?_set_ne (Ne.symm hj)] at e2
        obtain ⟨u', r', q⟩ := hl j y v' e1 e2 e3
        refine ⟨u', r', ?_⟩
        rcases q with q | ⟨k, c', e, z'⟩
        · exact .inl q
        · refine .inr ⟨k, c', e, z'.sameBut hs ?_⟩
          rintro rfl
          exact hj (nodup_ix hN e1 (I.ok.inj _ _ _ e hc ▸ hi))
    · by_cases hcc : c' = c
      · subst hcc; exact ⟨_, hc'⟩
      · obtain ⟨w2, z2⟩ := I.cell y c' e
        exact ⟨w2, z2.sameBut hs hcc⟩
    · obtain ⟨e, n, ne, nf, d⟩ := I.pin p hp
      refine ⟨(hs.2 p.1 ?_).trans e, n, ne, nf, d⟩
      intro q
      rw [q, hoc] at e
      have q' : oc = p.2 := Option.some.inj e
      exact d w' (by rw [← q']; exact hocd)
theorem store_ok {M : Model} {A : Around} {E : Value → Shared → Prop} {i : Nat} {x : Str} {v : V} {u : Value} {Q : Unit → Shared → Prop} (I : Inv X pins σ H s) (hN : X.N.Nodup) (hi : X.N[i]? = some x) (hx : Loc X.env.scope x) (r : RelV v u)
    (h : ∀ s', Inv X pins (σ.set i (some v)) H s' → Q () s') (hf : X.fn x = true ∨ X.env.scope.names.lookup x = some .local := by first | exact .inl rfl | exact .inr rfl | assumption) : wpAny M A (storeName X.env x u) Q E s :=
  store_ok2 I hN hi hx r (fun s' I' _ => h s' I') hf
end

abbrev XK := Value → Option Addr → Hp → Prop
abbrev St := List (Option V)
abbrev VK := V → Hp → Prop
abbrev TE := St → Hp → VK → Prop
abbrev TT := St → Hp → (Bool → Hp → Prop) → Prop
abbrev TA := St → Hp → (List V → Hp → Prop) → Prop
structure Ends where
  nx : St → Hp → Prop
  rt : VK
  bk : St → Hp → Prop := fun _ _ => False
  ct : St → Hp → Prop := fun _ _ => False
abbrev TS := Ends → St → Hp → Prop

def EP (X : Cx) (pins : List (Addr × Obj)) (σ : St) (Q : VK) (u : Value) (s' : Shared) : Prop := ∃ v H', Inv X pins σ H' s' ∧ RelV v u ∧ Q v H'
def TP (X : Cx) (pins : List (Addr × Obj)) (σ : St) (Q : Bool → Hp → Prop) (b : Bool) (s' : Shared) : Prop := ∃ H', Inv X pins σ H' s' ∧ Q b H'
def AP (X : Cx) (pins : List (Addr × Obj)) (σ : St) (Q : List V → Hp → Prop) (us : List Value) (s' : Shared) : Prop := ∃ vs H', Inv X pins σ H' s' ∧ Vals vs us ∧ Q vs H'
def SP (X : Cx) (pins : List (Addr × Obj)) (D : Ends) (f : Flow) (s' : Shared) : Prop :=
  match f with
  | .next => ∃ σ' H', Inv X pins σ' H' s' ∧ D.nx σ' H'
  | .brk => ∃ σ' H', Inv X pins σ' H' s' ∧ D.bk σ' H'
  | .cont => ∃ σ' H', Inv X pins σ' H' s' ∧ D.ct σ' H'
  | .ret u => ∃ v σ' H', Inv X pins σ' H' s' ∧ RelV v u ∧ D.rt v H'

def PE (X : Cx) (e : Expr) (t : TE) : Prop :=
  ∀ (pins : List (Addr × Obj)) (s : Shared) (σ : St) (H : Hp) (Q : VK), Inv X pins σ H s → t σ H Q → wpAny (model X.prog X.w) X.A (eval e X.env) (EP X pins σ Q) X.xe s
def PT (X : Cx) (e : Expr) (t : TT) : Prop :=
  ∀ (pins : List (Addr × Obj)) (s : Shared) (σ : St) (H : Hp) (Q : Bool → Hp → Prop), Inv X pins σ H s → t σ H Q → wpAny (model X.prog X.w) X.A (isTrue e X.env (eval e X.env)) (TP X pins σ Q) X.xe s
def PW (X : Cx) (e : Expr) (t : TT) : Prop :=
  ∀ (whole : Sem Value) (pins : List (Addr × Obj)) (s : Shared) (σ : St) (H : Hp) (Q : Bool → Hp → Prop), Inv X pins σ H s → t σ H Q → wpAny (model X.prog X.w) X.A (isTrue e X.env whole) (TP X pins σ Q) X.xe s
theorem PW.pt {X : Cx} {e : Expr} {t : TT} (h : PW X e t) : PT X e t := h _
def PA (X : Cx) (es : List Expr) (t : TA) : Prop :=
  ∀ (pos : Pos) (pins : List (Addr × Obj)) (s : Shared) (σ : St) (H : Hp) (Q : List V → Hp → Prop), Inv X pins σ H s → t σ H Q → wpAny (model X.prog X.w) X.A (spliced (backTo pos (starEach es X.env))) (AP X pins σ Q) X.xe s
def PS (X : Cx) (st : Stmt) (t : TS) : Prop :=
  ∀ (pins : List (Addr × Obj)) (s : Shared) (σ : St) (H : Hp) (D : Ends), Inv X pins σ H s → t D σ H → wpAny (model X.prog X.w) X.A (exec st X.env) (SP X pins D) X.xe s
def PSs (X : Cx) (st : List Stmt) (t : TS) : Prop :=
  ∀ (pins : List (Addr × Obj)) (s : Shared) (σ : St) (H : Hp) (D : Ends), Inv X pins σ H s → t D σ H → wpAny (model X.prog X.w) X.A (execs st X.env) (SP X pins D) X.xe s
theorem thn {α : Type} {t : Sem α} {Q Q' : α → Shared → Prop} {M : Model} {A : Around} {E : Value → Shared → Prop} {s : Shared} (h : wpAny M A t Q E s) (hQ : ∀ a s, Q a s → Q' a s) : wpAny M A t Q' E s := wpAny_mono h hQ fun _ _ x => x
end L2

namespace L2
open PySem PySem.Spec PyProof.Rows
section
variable {X : Cx}

def tVar (i : Nat) : TE := fun σ H Q => ∃ v, σ[i]? = some (some v) ∧ Q v H
def tC (v : V) : TE := fun _ H Q => Q v H
theorem pe_var {i : Nat} {x : Str} {pos : Pos} (hN : X.N[i]? = some x) (hv : Vis X.env.scope x) (hd : (x == ("__debug__" : Str)) = false := by decide) (hcd : (x == ("__classdict__" : Str)) = false := by decide) : PE X (.Name x pos) (tVar i) := by
  intro pins s σ H Q I h
  obtain ⟨v, e, h⟩ := h
  obtain ⟨m, hn, hl⟩ := I.loc
  obtain ⟨u, r, l⟩ := hl i x v hN e hv
  have fin : EP X pins σ Q u s := ⟨v, H, I, r, h⟩
  rcases l with ⟨hk, hm⟩ | ⟨hk, c, hc, hcell⟩
  · exact wpAny_Name (wpAny_loadName_local I.ok.kind hk hn hm fin) hd
  · rcases hk with hk | hk
    · exact wpAny_Name (wpAny_loadName_cell I.ok.kind hk hc hcell fin) hd
    · exact wpAny_Name (wpAny_loadName_free I.ok.kind hk hc hcell fin hcd) hd
theorem pe_int {i j pos} : PE X (.Constant (.int i) j pos) (tC (.int i)) := fun _ _ _ H _ I h => wpAny_Constant_int ⟨.int i, H, I.tok _, ⟨_, rfl⟩, h⟩
theorem pe_bl {b j pos} : PE X (.Constant (.bool b) j pos) (tC (.bl b)) := fun _ _ _ H _ I h => Constant_bool ⟨.bl b, H, I, rfl, h⟩
theorem pe_non {j pos} : PE X (.Constant .none j pos) (tC .non) := fun _ _ _ H _ I h => Constant_none ⟨.non, H, I, rfl, h⟩
theorem pe_str {x j pos} : PE X (.Constant (.str x) j pos) (tC (.str x)) := fun _ _ _ H _ I h => Calls.Constant_str ⟨.str x, H, I.tok _, ⟨_, rfl⟩, h⟩

def Gl (X : Cx) (x : Str) : Prop := X.env.kindOf x = some .globalImplicit
theorem ld_glob {E : Value → Shared → Prop} {pins : List (Addr × Obj)} {s : Shared} {σ : St} {H : Hp} {x : Str} {u : Value} {pos : Pos} {Q : Value → Shared → Prop} (I : Inv X pins σ H s) (hg : Gl X x) (hm : X.mg x = some u) (h : Q u s)
    (hd : (x == ("__debug__" : Str)) = false := by decide) : wpAny (model X.prog X.w) X.A (eval (.Name x pos) X.env) Q E s :=
  Calls.Name_function_global I.ok.kind hg (Calls.loadGlobal_global (by rw [I.ok.glob]; exact I.mod.glob.keeps I.bk) hm h) hd
theorem ld_blt {E : Value → Shared → Prop} {pins : List (Addr × Obj)} {s : Shared} {σ : St} {H : Hp} {x : Str} {u : Value} {pos : Pos} {Q : Value → Shared → Prop} (I : Inv X pins σ H s) (hg : Gl X x) (hm : X.mg x = none) (hv : bootBuiltins x = some u) (h : Q u s)
    (hn : x ≠ "__name__" := by decide) (hd : (x == ("__debug__" : Str)) = false := by decide) : wpAny (model X.prog X.w) X.A (eval (.Name x pos) X.env) Q E s := by
  obtain ⟨mb, h1, h2⟩ := I.mod.blt
  exact Calls.Name_function_global I.ok.kind hg (Calls.loadGlobal_builtin (by rw [I.ok.glob]; exact I.mod.glob.keeps I.bk) hm (by rw [I.ok.blt]; exact h1.keeps I.bk) ((h2 x hn).trans hv) h) hd
theorem pe_glob {x : Str} {v : V} {u : Value} {pos : Pos} (hg : Gl X x) (hm : X.mg x = some u) (r : RelV v u) (hd : (x == ("__debug__" : Str)) = false := by decide) : PE X (.Name x pos) (tC v) :=
  fun _ _ _ H _ I h => ld_glob I hg hm ⟨v, H, I, r, h⟩ hd
theorem pe_bltn {x : Str} {v : V} {u : Value} {pos : Pos} (hg : Gl X x) (hm : X.mg x = none) (hv : bootBuiltins x = some u) (r : RelV v u) (hn : x ≠ "__name__" := by decide) (hd : (x == ("__debug__" : Str)) = false := by decide) : PE X (.Name x pos) (tC v) :=
  fun _ _ _ H _ I h => ld_blt I hg hm hv ⟨v, H, I, r, h⟩ hn hd

variable {a b : Expr} {ta tb : TE} {pos : Pos}
def PC (X : Cx) (op : CmpOp) (a b : Expr) (t : TE) : Prop :=
  ∀ (pins : List (Addr × Obj)) (s : Shared) (σ : St) (H : Hp) (Q : VK), Inv X pins σ H s → t σ H Q →
    wpAny (model X.prog X.w) X.A (eval a X.env) (fun v s₁ => wpAny (model X.prog X.w) X.A (eval b X.env) (fun u s₂ => wpAny (model X.prog X.w) X.A (compareOp op v u) (EP X pins σ Q) X.xe s₂) X.xe s₁) X.xe s
theorem nobehind (b : Expr) {op : CmpOp} (h : op ≠ .In) (h2 : op ≠ .NotIn) : behindInMarks op b = false := by
  have e1 : (op == CmpOp.In) = false := by cases op <;> first | rfl | exact absurd rfl h
  have e2 : (op == CmpOp.NotIn) = false := by cases op <;> first | rfl | exact absurd rfl h2
  cases b <;> simp [behindInMarks, e1, e2]
def tIsN (ta : TE) : TE := fun σ H Q => ta σ H fun x H1 => Q (.bl (decide (x = .non))) H1
def tNotN (ta : TE) : TE := fun σ H Q => ta σ H fun x H1 => Q (.bl (!decide (x = .non))) H1
theorem RelV.none_iff {x : V} {v : Value} (r : RelV x v) : (v == Value.none) = decide (x = .non) := by
  cases x with
  | non => cases r; rfl
  | bl _ => cases r; rfl
  | int _ => obtain ⟨t, rfl⟩ := r; rfl
  | str _ => obtain ⟨t, rfl⟩ := r; rfl
  | byt _ => obtain ⟨t, rfl⟩ := r; rfl
  | flt _ => obtain ⟨t, rfl⟩ := r; rfl
  | ref _ => cases r; rfl
  | ty _ => cases r; rfl
theorem pc_isN {j pos'} (ha : PE X a ta) : PC X .Is a (.Constant .none j pos') (tIsN ta) := by
  intro pins s σ H Q I h
  refine thn (ha pins s σ H _ I h) fun v s1 ⟨x, H1, I1, r1, q1⟩ => ?_
  exact Constant_none (is_none_gen ⟨.bl _, H1, I1, by rw [r1.none_iff]; rfl, q1⟩)
theorem pc_notN {j pos'} (ha : PE X a ta) : PC X .IsNot a (.Constant .none j pos') (tNotN ta) := by
  intro pins s σ H Q I h
  refine thn (ha pins s σ H _ I h) fun v s1 ⟨x, H1, I1, r1, q1⟩ => ?_
  exact Constant_none (isnot_none_gen ⟨.bl _, H1, I1, by rw [r1.none_iff]; rfl, q1⟩)
def tB (t : TE) : TT := fun σ H Q => t σ H fun x H1 => ∃ c, x = .bl c ∧ Q c H1
theorem pe_cmp {op : CmpOp} {t : TE} (h : PC X op a b t) (h1 : behindInMarks op b = false := by first | exact nobehind _ (by decide) (by decide) | rfl) : PE X (.Compare a [op] [b] pos) t := fun pins s σ H Q I hw => wpAny_Compare1 (h pins s σ H Q I hw) h1
theorem pt_cmp {op : CmpOp} {t : TE} (h : PC X op a b t) (h1 : behindInMarks op b = false := by first | exact nobehind _ (by decide) (by decide) | rfl) : PT X (.Compare a [op] [b] pos) (tB t) := by
  intro pins s σ H Q I hw
  refine wpAny_isTrue_Compare1 (thn (h pins s σ H _ I hw) fun v s1 h1 => thn h1 fun u s2 h2 => thn h2 fun c s3 ⟨x, H1, I1, r1, q1⟩ => ?_) h1
  obtain ⟨d, rfl, q⟩ := q1
  cases r1
  exact wpAny_truthy_bool ⟨H1, I1, q⟩
theorem pt_val {e : Expr} {t : TE} (h : PE X e t) (he : ∀ whole, isTrue e X.env whole = (do let v ← whole; standAt e.pos; holding [v] (truthy v)) := by intro _; rfl) : PT X e (tB t) := by
  intro pins s σ H Q I hw
  refine isTrue_plain (thn (h pins s σ H _ I hw) fun v s1 ⟨x, H1, I1, r1, q1⟩ => ?_) (he _)
  obtain ⟨d, rfl, q⟩ := q1
  cases r1
  exact wpAny_truthy_bool ⟨H1, I1, q⟩

variable {tA tB' : TT} {rest : List Expr}
def tAnd (t u : TT) : TT := fun σ H Q => t σ H fun c H1 => if c = true then u σ H1 Q else Q false H1
def tOr (t u : TT) : TT := fun σ H Q => t σ H fun c H1 => if c = true then Q true H1 else u σ H1 Q
def tNot (t : TT) : TT := fun σ H Q => t σ H fun c H1 => Q (!c) H1
theorem pw_and1 (ha : PT X a tA) : PW X (.BoolOp .And [a] pos) tA := by
  intro wh pins s σ H Q I h
  refine isTrue_and (thn (ha pins s σ H Q I h) fun c s1 e => ?_)
  cases c with
  | true => exact isTrue_and_nil e
  | false => exact e
theorem pw_or1 (ha : PT X a tA) : PW X (.BoolOp .Or [a] pos) tA := by
  intro wh pins s σ H Q I h
  refine isTrue_or (thn (ha pins s σ H Q I h) fun c s1 e => ?_)
  cases c with
  | false => exact isTrue_or_nil e
  | true => exact e
theorem pw_and (ha : PT X a tA) (hb : PW X (.BoolOp .And (b :: rest) pos) tB') : PW X (.BoolOp .And (a :: b :: rest) pos) (tAnd tA tB') := by
  intro wh pins s σ H Q I h
  refine isTrue_and (thn (ha pins s σ H _ I h) fun c s1 ⟨H1, I1, q1⟩ => ?_)
  cases c with
  | true => exact hb wh pins s1 σ H1 Q I1 q1
  | false => exact ⟨H1, I1, q1⟩
theorem pw_or (ha : PT X a tA) (hb : PW X (.BoolOp .Or (b :: rest) pos) tB') : PW X (.BoolOp .Or (a :: b :: rest) pos) (tOr tA tB') := by
  intro wh pins s σ H Q I h
  refine isTrue_or (thn (ha pins s σ H _ I h) fun c s1 ⟨H1, I1, q1⟩ => ?_)
  cases c with
  | true => exact ⟨H1, I1, q1⟩
  | false => exact hb wh pins s1 σ H1 Q I1 q1
theorem pt_not (ha : PT X a tA) : PT X (.UnaryOp .Not a pos) (tNot tA) := by
  intro pins s σ H Q I h
  exact isTrue_not (ha pins s σ H (fun c H1 => Q (!c) H1) I h)
def tAndV (ta tb : TE) : TE := fun σ H Q => ta σ H fun x H1 => ∃ c, x = .bl c ∧ if c = true then tb σ H1 Q else Q (.bl false) H1
def tOrV (ta tb : TE) : TE := fun σ H Q => ta σ H fun x H1 => ∃ c, x = .bl c ∧ if c = true then Q (.bl true) H1 else tb σ H1 Q
theorem pe_one {op} {t : TE} (h : PE X a t) : PE X (.BoolOp op [a] pos) t := fun pins s σ H Q I hw => BoolOp_one (h pins s σ H Q I hw)
theorem pe_and (ha : PE X a ta) (hb : PE X (.BoolOp .And (b :: rest) pos) tb) : PE X (.BoolOp .And (a :: b :: rest) pos) (tAndV ta tb) := by
  intro pins s σ H Q I h
  refine BoolOp_and (thn (ha pins s σ H _ I h) fun v s1 ⟨x, H1, I1, r1, q1⟩ => ?_)
  obtain ⟨c, rfl, q1⟩ := q1
  cases r1
  refine wpAny_truthy_bool ?_
  cases c with
  | true => exact hb pins s1 σ H1 Q I1 q1
  | false => exact ⟨.bl false, H1, I1, rfl, q1⟩
theorem pe_or (ha : PE X a ta) (hb : PE X (.BoolOp .Or (b :: rest) pos) tb) : PE X (.BoolOp .Or (a :: b :: rest) pos) (tOrV ta tb) := by
  intro pins s σ H Q I h
  refine BoolOp_or (thn (ha pins s σ H _ I h) fun v s1 ⟨x, H1, I1, r1, q1⟩ => ?_)
  obtain ⟨c, rfl, q1⟩ := q1
  cases r1
  refine wpAny_truthy_bool ?_
  cases c with
  | false => exact hb pins s1 σ H1 Q I1 q1
  | true => exact ⟨.bl true, H1, I1, rfl, q1⟩
end
end L2

namespace L2
open PySem PySem.Spec PyProof.Rows

def SqL (K : PySem.W.Frag) (H : Hp) (a : Addr) (xs : List V) : Prop :=
  Rd H a (.lst xs) ∨
    ∃ (o : Obj) (its : Array Value) (n : Nat), K.lookup a = some o ∧ o.cls = .type "list" ∧ o.dict = none ∧ o.data = .seq its n ∧ its.size ≤ sizeLine ∧ Vals xs its.toList
def SqT (K : PySem.W.Frag) (H : Hp) (a : Addr) (xs : List V) : Prop :=
  Rd H a (.tup xs) ∨
    ∃ (o : Obj) (its : Array Value) (n : Nat), K.lookup a = some o ∧ o.cls = .type "tuple" ∧ o.data = .seq its n ∧ its.size ≤ sizeLine ∧ Vals xs its.toList
def absV : Value → Option V
  | .none => some .non
  | .bool b => some (.bl b)
  | .int i _ => some (.int i)
  | .str x _ => some (.str x)
  | .bytes b _ => some (.byt b)
  | .float b _ => some (.flt b)
  | .ref a => some (.ref a)
  | .type n => some (.ty n)
  | _ => none
theorem RelV.abs {x : V} {u : Value} (r : RelV x u) : absV u = some x := by
  cases x with
  | non => cases r; rfl
  | bl _ => cases r; rfl
  | int _ => obtain ⟨t, rfl⟩ := r; rfl
  | str _ => obtain ⟨t, rfl⟩ := r; rfl
  | byt _ => obtain ⟨t, rfl⟩ := r; rfl
  | flt _ => obtain ⟨t, rfl⟩ := r; rfl
  | ref _ => cases r; rfl
  | ty _ => cases r; rfl
theorem RelV.inj {x y : V} {u : Value} (r : RelV x u) (q : RelV y u) : x = y := Option.some.inj (r.abs.symm.trans q.abs)
theorem Vals.inj : ∀ {xs ys : List V} {us : List Value}, Vals xs us → Vals ys us → xs = ys
  | _, _, _, .nil, .nil => rfl
  | _, _, _, .cons r t, .cons r' t' => by rw [r.inj r', Vals.inj t t']
section
variable {X : Cx} {pins : List (Addr × Obj)} {σ : St} {H : Hp} {s : Shared} {a : Addr} {xs ys : List V}
theorem SqL.of {K : PySem.W.Frag} (h : H a = some (.lst xs)) : SqL K H a xs := .inl (.inl h)
theorem SqT.of {K : PySem.W.Frag} (h : H a = some (.tup xs)) : SqT K H a xs := .inl (.inl h)
theorem Inv.list (I : Inv X pins σ H s) (h : SqL X.K H a xs) : ∃ its : List Value, Vals xs its ∧ PlainL s.heap a its.toArray ∧ xs.length ≤ sizeLine := by
  rcases h with h | ⟨o, its, n, hk, hc, hd, hs, hz, r⟩
  · obtain ⟨z, its, n, r, e⟩ := h.ok I.hok
    exact ⟨its, r, ⟨_, n, e, rfl, rfl, rfl⟩, z⟩
  · refine ⟨its.toList, r, ⟨o, n, I.kIn a o hk, hc, hd, by simpa using hs⟩, ?_⟩
    have e := r.length
    simp only [Array.length_toList] at e
    omega
theorem Inv.tuple (I : Inv X pins σ H s) (h : SqT X.K H a xs) : ∃ its : List Value, Vals xs its ∧ IsTup s.heap a its.toArray ∧ xs.length ≤ sizeLine := by
  rcases h with h | ⟨o, its, n, hk, hc, hs, hz, r⟩
  · obtain ⟨z, its, r, p⟩ := h.ok I.hok
    exact ⟨its, r, p, z.1⟩
  · refine ⟨its.toList, r, ⟨o, I.kIn a o hk, hc, n, by simpa using hs⟩, ?_⟩
    have e := r.length
    simp only [Array.length_toList] at e
    omega
theorem Inv.list_inj (I : Inv X pins σ H s) (h : SqL X.K H a xs) (h' : SqL X.K H a ys) : xs = ys := by
  obtain ⟨its, r, ⟨o, n, e, _, _, d⟩, _⟩ := I.list h
  obtain ⟨its', r', ⟨o', n', e', _, _, d'⟩, _⟩ := I.list h'
  rw [e] at e'; cases e'
  rw [d] at d'
  injection d' with d1 _
  have : its = its' := by simpa using congrArg Array.toList d1
  subst this
  exact r.inj r'
theorem Inv.tuple_inj (I : Inv X pins σ H s) (h : SqT X.K H a xs) (h' : SqT X.K H a ys) : xs = ys := by
  obtain ⟨its, r, ⟨o, e, _, n, d⟩, _⟩ := I.tuple h
  obtain ⟨its', r', ⟨o', e', _, n', d'⟩, _⟩ := I.tuple h'
  rw [e] at e'; cases e'
  rw [d] at d'
  injection d' with d1 _
  have : its = its' := by simpa using congrArg Array.toList d1
  subst this
  exact r.inj r'
end

abbrev Cx.wish (X : Cx) (E : Value → Shared → Prop) : Cx := { X with xe := E }
abbrev Cx.nox (X : Cx) : Cx := X.wish fun _ _ => False
theorem Cx.Ok.wish {X : Cx} (ok : X.Ok) (E : Value → Shared → Prop) : (X.wish E).Ok :=
  ⟨ok.mod, ok.kind, ok.glob, ok.blt, ok.above, ok.inj, ok.has, ok.cab, ok.hd, ok.frames, ok.stk, ok.exf, ok.bs, ok.bsz, ok.noex, ok.exfs, ok.funs, ok.frf⟩
theorem Cx.Ok.unwish {X : Cx} {E : Value → Shared → Prop} (ok : (X.wish E).Ok) : X.Ok :=
  ⟨ok.mod, ok.kind, ok.glob, ok.blt, ok.above, ok.inj, ok.has, ok.cab, ok.hd, ok.frames, ok.stk, ok.exf, ok.bs, ok.bsz, ok.noex, ok.exfs, ok.funs, ok.frf⟩
section
variable {X : Cx} {pins : List (Addr × Obj)} {σ : St} {H : Hp} {s : Shared} {E : Value → Shared → Prop}
theorem Inv.wish (I : Inv X pins σ H s) (E : Value → Shared → Prop) : Inv (X.wish E) pins σ H s := ⟨I.ok.wish E, I.os, I.bare, I.base, I.loc, I.cell, I.free, I.freeC, I.pin, I.hok, I.len⟩
theorem Inv.unwish (I : Inv (X.wish E) pins σ H s) : Inv X pins σ H s := ⟨I.ok.unwish, I.os, I.bare, I.base, I.loc, I.cell, I.free, I.freeC, I.pin, I.hok, I.len⟩
theorem SP.unwish {D : Ends} {f : Flow} {s' : Shared} (h : SP (X.wish E) pins D f s') : SP X pins D f s' := by
  cases f with
  | next => obtain ⟨σ', H', I, q⟩ := h; exact ⟨σ', H', I.unwish, q⟩
  | brk => obtain ⟨σ', H', I, q⟩ := h; exact ⟨σ', H', I.unwish, q⟩
  | cont => obtain ⟨σ', H', I, q⟩ := h; exact ⟨σ', H', I.unwish, q⟩
  | ret u => obtain ⟨v, σ', H', I, r, q⟩ := h; exact ⟨v, σ', H', I.unwish, r, q⟩
theorem PE.nox {e : Expr} {t : TE} (h : PE X.nox e t) : PE X e t := fun pins s σ H Q I hw =>
  wpAny_mono (h pins s σ H Q (I.wish _) hw) (fun _ _ ⟨v, H', I', r, q⟩ => ⟨v, H', I'.unwish, r, q⟩) fun _ _ z => False.elim z
theorem PT.nox {e : Expr} {t : TT} (h : PT X.nox e t) : PT X e t := fun pins s σ H Q I hw =>
  wpAny_mono (h pins s σ H Q (I.wish _) hw) (fun _ _ ⟨H', I', q⟩ => ⟨H', I'.unwish, q⟩) fun _ _ z => False.elim z
theorem PSs.nox {st : List Stmt} {t : TS} (h : PSs X.nox st t) : PSs X st t := fun pins s σ H D I hw =>
  wpAny_mono (h pins s σ H D (I.wish _) hw) (fun _ _ q => q.unwish) fun _ _ z => False.elim z
end

section
variable {X : Cx} {st : Stmt} {rest : List Stmt} {t u : TS} {e : Expr} {te : TE} {pos : Pos}
def tNext : TS := fun D σ H => D.nx σ H
def tSeq (t u : TS) : TS := fun D σ H => t { D with nx := u D } σ H
theorem pss_nil : PSs X [] tNext := fun _ _ σ H _ I h => wpAny_execs_nil ⟨σ, H, I, h⟩
theorem pss_cons (h1 : PS X st t) (h2 : PSs X rest u) : PSs X (st :: rest) (tSeq t u) := by
  intro pins s σ H D I h
  refine wpAny_execs_cons (thn (h1 pins s σ H { D with nx := u D } I h) fun f s1 q => ?_)
  cases f with
  | next =>
    obtain ⟨σ', H', I', q⟩ := q
    exact h2 pins s1 σ' H' D I' q
  | ret v => exact q
  | brk => exact q
  | cont => exact q
theorem pss_one (h1 : PS X st t) : PSs X [st] t := by
  intro pins s σ H D I h
  refine wpAny_execs_cons (thn (h1 pins s σ H D I h) fun f s1 q => ?_)
  cases f with
  | next => exact wpAny_execs_nil q
  | ret v => exact q
  | brk => exact q
  | cont => exact q
theorem Inv.quiet {pins : List (Addr × Obj)} {σ : St} {H : Hp} {s : Shared} (I : Inv X pins σ H s) : interactive X.env = false := by simp [interactive, I.ok.kind]
def tDrop (te : TE) : TS := fun D σ H => te σ H fun _ H1 => D.nx σ H1
theorem ps_expr (he : PE X e te) (hs : swapsWith e none pos.line X.env = pure false := by rfl) : PS X (.Expr e pos) (tDrop te) := by
  intro pins s σ H D I h
  exact wpAny_Expr_any (thn (he pins s σ H _ I h) fun v s1 ⟨x, H1, I1, r1, q1⟩ => ⟨σ, H1, I1, q1⟩) I.quiet hs
def tRet (te : TE) : TS := fun D σ H => te σ H D.rt
theorem ps_ret (he : PE X e te) : PS X (.Return (some e) pos) (tRet te) := by
  intro pins s σ H D I h
  exact wpAny_Return_some (thn (he pins s σ H _ I h) fun v s1 ⟨x, H1, I1, r1, q1⟩ => ⟨x, σ, H1, I1, r1, q1⟩)
def tIfS (c : TT) (t u : TS) : TS := fun D σ H => c σ H fun b H1 => if b = true then t D σ H1 else u D σ H1
theorem ps_if {c : Expr} {a b : List Stmt} {tc : TT} (hc : PT X c tc) (ha : PSs X a t) (hb : PSs X b u) : PS X (.If c a b pos) (tIfS tc t u) := by
  intro pins s σ H D I h
  refine wpAny_If (thn (hc pins s σ H _ I h) fun d s1 ⟨H1, I1, q1⟩ => ?_)
  cases d with
  | true => exact ha pins s1 σ H1 D I1 q1
  | false => exact hb pins s1 σ H1 D I1 q1
def tNever : TS := fun _ _ _ => False
theorem pss_never {sts : List Stmt} : PSs X sts tNever := fun _ _ _ _ _ _ h => h.elim
end

abbrev TG := V → St → Hp → (St → Hp → Prop) → Prop
abbrev TGs := List V → St → Hp → (St → Hp → Prop) → Prop
def PG (X : Cx) (target : Expr) (t : TG) : Prop :=
  ∀ (pins : List (Addr × Obj)) (s : Shared) (σ : St) (H : Hp) (v : V) (u : Value) (Q : St → Hp → Prop), Inv X pins σ H s → RelV v u → t v σ H Q →
    wpAny (model X.prog X.w) X.A (assign target X.env u) (fun _ s' => ∃ σ' H', Inv X pins σ' H' s' ∧ Q σ' H') X.xe s
def PGs (X : Cx) (ts : List Expr) (t : TGs) : Prop :=
  ∀ (pins : List (Addr × Obj)) (s : Shared) (σ : St) (H : Hp) (vs : List V) (us : List Value) (Q : St → Hp → Prop), Inv X pins σ H s → Vals vs us → t vs σ H Q →
    wpAny (model X.prog X.w) X.A (assignInOrder ((assignEach ts X.env).map (·.2)) us) (fun _ s' => ∃ σ' H', Inv X pins σ' H' s' ∧ Q σ' H') X.xe s
abbrev TSet := V → V → V → Hp → (Hp → Prop) → Prop
def PSet (X : Cx) (t : TSet) : Prop :=
  ∀ (pins : List (Addr × Obj)) (s : Shared) (σ : St) (H : Hp) (o i v : V) (ov iv u : Value) (Q : Hp → Prop), Inv X pins σ H s → RelV o ov → RelV i iv → RelV v u → t o i v H Q →
    wpAny (model X.prog X.w) X.A (setItem ov iv u) (fun _ s' => ∃ H', Inv X pins σ H' s' ∧ Q H') X.xe s
abbrev TIp := V → V → Hp → VK → Prop
def PIp (X : Cx) (op : Operator) (t : TIp) : Prop :=
  ∀ (pins : List (Addr × Obj)) (s : Shared) (σ : St) (H : Hp) (x y : V) (v u : Value) (Q : VK), Inv X pins σ H s → RelV x v → RelV y u → t x y H Q →
    wpAny (model X.prog X.w) X.A (inplaceOp op v u) (EP X pins σ Q) X.xe s
section
variable {X : Cx} {pos : Pos}
def gName (i : Nat) : TG := fun v σ H Q => Q (σ.set i (some v)) H
theorem pg_name {i : Nat} {x : Str} (hN : X.N.Nodup) (hi : X.N[i]? = some x) (hx : Loc X.env.scope x) (hf : X.fn x = true ∨ X.env.scope.names.lookup x = some .local := by first | exact .inl rfl | exact .inr rfl | assumption) : PG X (.Name x pos) (gName i) := by
  intro pins s σ H v u Q I r h
  exact wpAny_assign_Name (store_ok I hN hi hx r (fun s' I' => ⟨_, H, I', h⟩) hf)
def gNil : TGs := fun vs σ H Q => vs = [] ∧ Q σ H
def gCons (t : TG) (u : TGs) : TGs := fun vs σ H Q => ∃ v r, vs = v :: r ∧ t v σ H fun σ' H' => u r σ' H' Q
theorem pgs_nil : PGs X [] gNil := by
  intro pins s σ H vs us Q I r h
  obtain ⟨e, h⟩ := h
  subst e
  cases r
  exact assignInOrder_nil ⟨σ, H, I, h⟩
theorem pgs_cons {e : Expr} {es : List Expr} {t : TG} {u : TGs} (h1 : PG X e t) (h2 : PGs X es u)
    (hs : (assignEach (e :: es) X.env).map (·.2) = assign e X.env :: (assignEach es X.env).map (·.2) := by rfl) : PGs X (e :: es) (gCons t u) := by
  intro pins s σ H vs us Q I r h
  obtain ⟨v, vr, e1, h⟩ := h
  subst e1
  cases r with
  | cons r rr =>
    rw [hs]
    refine assignInOrder_cons (thn (h1 pins s σ H _ _ _ I r h) fun _ s1 ⟨σ1, H1, I1, q1⟩ => ?_)
    exact h2 pins s1 σ1 H1 _ _ Q I1 rr q1
def gTup (K : PySem.W.Frag) (n : Nat) (t : TGs) : TG := fun v σ H Q => ∃ a xs, v = .ref a ∧ SqT K H a xs ∧ xs.length = n ∧ t xs σ H Q
theorem pg_tup {es : List Expr} {k : Nat} {t : TGs} {n : Nat} (hc : X.calm = true) (h : PGs X es t)
    (hn : (assignEach es X.env).length = n := by rfl) (hst : (assignEach es X.env).findIdx? (·.1) = none := by rfl) : PG X (.Tuple es k pos) (gTup X.K n t) := by
  intro pins s σ H v u Q I r hw
  obtain ⟨a, xs, e1, hq, hl, hw⟩ := hw
  subst e1
  cases r
  obtain ⟨its, rv, ht, hz⟩ := I.tuple hq
  refine assign_Tuple_tuple (I.ok.hd hc) ht (by simp [hn, ← hl, rv.length]) hst fun h' hx => ?_
  have I1 : Inv X pins σ H { s with heap := h' } := I.kept (t' := s.toks) fun b o e => hx b o (Nat.ne_of_lt (Heap.lt_size e)) e
  exact h pins _ σ H xs _ Q I1 (by simpa using rv) hw
def gSub (to ti : TE) (t : TSet) : TG := fun v σ H Q => to σ H fun o H1 => ti σ H1 fun i H2 => t o i v H2 fun H3 => Q σ H3
theorem pg_sub {o i : Expr} {to ti : TE} {t : TSet} (ho : PE X o to) (hi : PE X i ti) (hs : PSet X t)
    (ha : ∀ v, assign (.Subscript o i pos) X.env v = (do
      let ov ← holding [v] (eval o X.env)
      let iv ← holding [v, ov] (eval i X.env)
      standAt pos
      holding [v, ov, iv] (setItem ov iv v)
      release [v, ov, iv] []) := by intro _; rfl) : PG X (.Subscript o i pos) (gSub to ti t) := by
  intro pins s σ H v u Q I r h
  rw [ha]
  refine wpAny_bind (wpAny_holding (thn (ho pins s σ H _ I h) fun ov s1 ⟨x, H1, I1, r1, q1⟩ => ?_))
  refine wpAny_bind (wpAny_holding (thn (hi pins s1 σ H1 _ I1 q1) fun iv s2 ⟨y, H2, I2, r2, q2⟩ => ?_))
  refine wpAny_bind (wpAny_standAt (wpAny_bind (wpAny_holding (thn (hs pins s2 σ H2 x y v ov iv u _ I2 r1 r2 r q2) fun _ s3 ⟨H3, I3, q3⟩ => ?_))))
  exact wpAny_release ⟨σ, H3, I3, q3⟩
def tAsg (te : TE) (g : TG) : TS := fun D σ H => te σ H fun x H1 => g x σ H1 D.nx
theorem ps_asg {tg e : Expr} {te : TE} {g : TG} (he : PE X e te) (hg : PG X tg g) (hs : swapsWithSole [tg] e pos.line X.env = pure false := by rfl) (hw : swappedStores [tg] e X.env = pure none := by rfl)
    (h1 : (assignEach [tg] X.env).map (·.2) = [assign tg X.env] := by rfl) : PS X (.Assign [tg] e pos) (tAsg te g) := by
  intro pins s σ H D I h
  refine wpAny_Assign_stores (thn (he pins s σ H _ I h) fun v s1 ⟨x, H1, I1, r1, q1⟩ => ?_) hs hw
  rw [h1]
  exact thn (hg pins s1 σ H1 x v _ I1 r1 q1) fun _ s2 q => q
theorem ps_set {i : Nat} {x : Str} {e : Expr} {te : TE} {pos' : Pos} (hN : X.N.Nodup) (hi : X.N[i]? = some x) (hx : Loc X.env.scope x) (he : PE X e te) (hs : swapsWith e (some (.Name x pos')) pos.line X.env = pure false := by rfl) (hf : X.fn x = true ∨ X.env.scope.names.lookup x = some .local := by first | exact .inl rfl | exact .inr rfl | assumption) :
    PS X (.Assign [.Name x pos'] e pos) (tAsg te (gName i)) := by
  intro pins s σ H D I h
  refine wpAny_Assign_Name (thn (he pins s σ H _ I h) fun v s1 ⟨y, H1, I1, r1, q1⟩ => ?_) hs
  exact store_ok I1 hN hi hx r1 (fun s2 I2 => ⟨_, H1, I2, q1⟩) hf
def tAug (i : Nat) (te : TE) (ti : TIp) : TS := fun D σ H => ∃ x, σ[i]? = some (some x) ∧ te σ H fun y H1 => ti x y H1 fun z H2 => D.nx (σ.set i (some z)) H2
theorem ps_aug {i : Nat} {x : Str} {e : Expr} {te : TE} {op : Operator} {ti : TIp} {pos' : Pos} (hN : X.N.Nodup) (hi : X.N[i]? = some x) (hx : Loc X.env.scope x) (he : PE X e te) (ho : PIp X op ti) (hf : X.fn x = true ∨ X.env.scope.names.lookup x = some .local := by first | exact .inl rfl | exact .inr rfl | assumption) :
    PS X (.AugAssign (.Name x pos') op e pos) (tAug i te ti) := by
  intro pins s σ H D I h
  obtain ⟨v, e1, h⟩ := h
  obtain ⟨m, hn, hl⟩ := I.loc
  have vis : Vis X.env.scope x := by rcases hx with k | k; exact .inl k; exact .inr (.inl k)
  obtain ⟨u, r, l⟩ := hl i x v hi e1 vis
  refine wpAny_AugAssign_Name ?_
  have go : wpAny (model X.prog X.w) X.A (eval e X.env) (fun w s₂ => wpAny (model X.prog X.w) X.A (inplaceOp op u w) (fun r s₃ => wpAny (model X.prog X.w) X.A (storeName X.env x r) (fun _ => SP X pins D .next) X.xe s₃) X.xe s₂) X.xe s := by
    refine thn (he pins s σ H _ I h) fun w s1 ⟨y, H1, I1, r1, q1⟩ => ?_
    refine thn (ho pins s1 σ H1 v y u w _ I1 r r1 q1) fun z s2 ⟨zv, H2, I2, r2, q2⟩ => ?_
    exact store_ok I2 hN hi hx r2 (fun s3 I3 => ⟨_, H2, I3, q2⟩) hf
  rcases l with ⟨hk, hm⟩ | ⟨hk, c, hc, hcell⟩
  · exact wpAny_loadName_local I.ok.kind hk hn hm go
  · rcases hk with hk | hk
    · exact wpAny_loadName_cell I.ok.kind hk hc hcell go
    · rcases hx with k | k
      · have : X.env.scope.names.lookup x = some .free := hk
        rw [k] at this; cases this
      · have : X.env.scope.names.lookup x = some .free := hk
        rw [k] at this; cases this
def ipI (f : Int → Int → Int) : TIp := fun x y H Q => ∃ i j, x = .int i ∧ y = .int j ∧ Q (.int (f i j)) H
theorem ip_sub : PIp X .Sub (ipI fun i j => i - j) := by
  intro pins s σ H x y v u Q I r1 r2 h
  obtain ⟨i, j, e1, e2, q⟩ := h
  subst e1; subst e2
  obtain ⟨t, rfl⟩ := r1
  obtain ⟨t', rfl⟩ := r2
  exact isub_int ⟨.int _, H, I.tok _, ⟨_, rfl⟩, q⟩
end

section
variable {X : Cx} {pos : Pos}
end

structure It where
  go : Nat → Hp → Prop
  yld : Nat → Hp → V → Hp → Prop
  stop : Nat → Hp → Prop
def FpOk (X : Cx) (pins : List (Addr × Obj)) (H : Hp) (b : Addr) : Prop :=
  H b = none ∧ b ≠ X.env.locals ∧ b ∉ X.fs ∧ (b ∈ X.ex ∨ X.s₀.heap.objs.size ≤ b) ∧ (∀ x c, X.env.cells.lookup x = some c → c ≠ b) ∧ ∀ p ∈ X.pn ++ pins, p.1 ≠ b
theorem Inv.fpOk {X : Cx} {pins : List (Addr × Obj)} {σ : St} {H H' : Hp} {s : Shared} {b : Addr} (I : Inv X pins σ H s) (hb : s.heap.objs.size ≤ b) (hn : H' b = none) : FpOk X pins H' b := by
  refine ⟨hn, Nat.ne_of_gt (Nat.lt_of_lt_of_le I.lt hb), I.nofs hb, .inr (Nat.le_trans I.sz hb), fun x c e z => ?_, fun p hp z => ?_⟩
  · obtain ⟨v, q⟩ := I.cell x c e
    exact absurd (Nat.lt_of_lt_of_le q.lt (by rw [z]; exact hb)) (Nat.lt_irrefl _)
  · exact absurd (Nat.lt_of_lt_of_le (Heap.lt_size (I.pin p hp).1) (by rw [z]; exact hb)) (Nat.lt_irrefl _)
structure Turn (P : Program) (w : World) (K : PySem.W.Frag) (tg : Expr) (J : It) (fp : List Addr) (it : Addr) (tn : Nat → Heap → Prop) : Prop where
  mem : it ∈ fp
  obj : ∀ i h, tn i h → ∀ b ∈ fp, ∃ o, h.get? b = some o ∧ ∀ v, o.data ≠ .cell v
  keep : ∀ i h h', tn i h → (∀ b ∈ fp, ∀ o, h.get? b = some o → h'.get? b = some o) → tn i h'
  item : ∀ (X : Cx), X.prog = P → X.w = w → X.K = K → X.calm = true → ∀ (i : Nat) (pins : List (Addr × Obj)) (s : Shared) (σ : St) (H : Hp) (E : Value → Shared → Prop), Inv X pins σ H s → (∀ b ∈ fp, FpOk X pins H b) → tn i s.heap → J.go i H →
    wpAny (model P w) X.A (pyNext (.ref it)) (fun r s1 => ∃ u, r = some u ∧
      wpAny (model P w) X.A (letOwnedTupleGo tg (.ref it) u) (fun _ s2 => ∃ x H', Inv X pins σ H' s2 ∧ RelV x u ∧ J.yld i H x H' ∧ tn (i + 1) s2.heap ∧ ∀ b ∈ fp, H' b = none) E s1) E s
  done : ∀ (X : Cx), X.prog = P → X.w = w → X.K = K → X.calm = true → ∀ (i : Nat) (pins : List (Addr × Obj)) (s : Shared) (σ : St) (H : Hp) (E : Value → Shared → Prop), Inv X pins σ H s → (∀ b ∈ fp, FpOk X pins H b) → tn i s.heap → J.stop i H →
    wpAny (model P w) X.A (pyNext (.ref it)) (fun r s1 => r = none ∧ Inv X pins σ H s1) E s
  self : ∀ (A : Around) (i : Nat) (s : Shared) (Q : Value → Shared → Prop) (E : Value → Shared → Prop), tn i s.heap → Q (.ref it) s → wpAny (model P w) A (pyIter (.ref it)) Q E s
abbrev TI := St → Hp → (It → Hp → Prop) → Prop
def PIE (X : Cx) (pins : List (Addr × Obj)) (σ : St) (tg : Expr) (R : It → Hp → Prop) (itv : Value) (s2 : Shared) : Prop :=
  ∃ (it : Addr) (fp : List Addr) (tn : Nat → Heap → Prop) (J : It) (H' : Hp), itv = .ref it ∧ Inv X pins σ H' s2 ∧ Turn X.prog X.w X.K tg J fp it tn ∧ tn 0 s2.heap ∧ (∀ b ∈ fp, FpOk X pins H' b) ∧ R J H'
def PI (X : Cx) (tg iter : Expr) (wi : TI) : Prop :=
  ∀ (pins : List (Addr × Obj)) (s : Shared) (σ : St) (H : Hp) (R : It → Hp → Prop), Inv X pins σ H s → wi σ H R →
    wpAny (model X.prog X.w) X.A (eval iter X.env) (fun v s1 => wpAny (model X.prog X.w) X.A (pyIter v) (PIE X pins σ tg R) X.xe s1) X.xe s

theorem go_of {M : Model} {A : Around} {E : Value → Shared → Prop} {s : Shared} {tg : Expr} {it : Addr} {u : Value} {o : Obj} {n : String} {vs : Array Value} {Q : Unit → Shared → Prop} (ho : s.heap.get? it = some o) (hc : o.cls = .type n) (hd : o.data = .fields vs)
    (hn : ["enumerate", "zip", "dict_itemiterator", "dict_reverseitemiterator", "odict_iterator", "itertools.zip_longest", "itertools.pairwise"].contains n = false) (hQ : Q () s) : wpAny M A (letOwnedTupleGo tg (.ref it) u) Q E s := by
  unfold letOwnedTupleGo
  cases tg <;> first
    | exact wpAny_pure hQ
    | (cases u <;> first
        | exact wpAny_pure hQ
        | (refine wpAny_bind (wpAny_load ho ?_)
           rw [hc, hd]
           show wpAny M A (if (["enumerate", "zip", "dict_itemiterator", "dict_reverseitemiterator", "odict_iterator", "itertools.zip_longest", "itertools.pairwise"].contains n && vs[0]? == some (rawInt _)) = true then _ else _) Q E s
           rw [if_neg (by intro h; rw [hn, Bool.false_and] at h; cases h)]
           exact wpAny_pure hQ))

def Itl (K : PySem.W.Frag) (a : Addr) : It :=
  ⟨fun i H => ∃ xs x, SqL K H a xs ∧ xs[i]? = some x, fun i H x H' => H' = H ∧ ∀ xs, SqL K H a xs → xs[i]? = some x, fun i H => ∃ xs, SqL K H a xs ∧ xs.length ≤ i⟩
def Itt (K : PySem.W.Frag) (a : Addr) : It :=
  ⟨fun i H => ∃ xs x, SqT K H a xs ∧ xs[i]? = some x, fun i H x H' => H' = H ∧ ∀ xs, SqT K H a xs → xs[i]? = some x, fun i H => ∃ xs, SqT K H a xs ∧ xs.length ≤ i⟩
def Itr (lo : Int) (n : Nat) : It := ⟨fun i _ => i < n, fun i H x H' => H' = H ∧ x = .int (lo + i), fun i _ => n ≤ i⟩
theorem turn_list {P : Program} {w : World} {K : PySem.W.Frag} {tg : Expr} (a it : Addr) : Turn P w K tg (Itl K a) [it] it (fun i h => h.IsListIter it a i) where
  mem := by simp
  obj := fun i h st b hb => by
    have e : b = it := by simpa using hb
    subst e
    obtain ⟨o, e, c, d⟩ := st
    exact ⟨o, e, fun v z => by rw [d] at z; cases z⟩
  keep := fun i h h' st k => st.at fun o e => k it (by simp) o e
  item := by
    intro X hP hw hK hc i pins s σ H E I hf st hg
    subst hP hw hK
    obtain ⟨xs, x, hq, hx⟩ := hg
    obtain ⟨its, rv, p, hz⟩ := I.list hq
    obtain ⟨u, hu, ru⟩ := rv.get hx
    obtain ⟨f0, f1, f2, f3, f4, f5⟩ := hf it (by simp)
    refine wpAny_pyNext_list_item st p.isList (x := u) (by simpa using hu) fun h' st' sb => ?_
    have I1 : Inv X pins σ H { s with heap := h' } := I.turned (t' := s.toks) (fun b o hb e => (sb.2 b hb).trans e) f0 f1 f3 f4 f5
    obtain ⟨o, e, c, d⟩ := id st'
    exact ⟨u, rfl, go_of (s := { s with heap := h' }) e c d (by decide) ⟨x, H, I1, ru, ⟨rfl, fun ys hy => by rw [I.list_inj hy hq]; exact hx⟩, st', fun b hb => (hf b hb).1⟩⟩
  done := by
    intro X hP hw hK hc i pins s σ H E I hf st hg
    subst hP hw hK
    obtain ⟨xs, hq, hx⟩ := hg
    obtain ⟨its, rv, p, hz⟩ := I.list hq
    obtain ⟨f0, f1, f2, f3, f4, f5⟩ := hf it (by simp)
    have hl := rv.length
    exact wpAny_pyNext_list_end (I.ok.hd hc) st p.isList (by simp; omega) fun h' eb => ⟨rfl, I.turned (t' := s.toks) (fun b o hb e => eb b o hb e) f0 f1 f3 f4 f5⟩
  self := fun _ _ _ _ _ st h => wpAny_pyIter_listiter st h
theorem turn_tuple {P : Program} {w : World} {K : PySem.W.Frag} {tg : Expr} (a it : Addr) : Turn P w K tg (Itt K a) [it] it (fun i h => h.IsTupleIter it a i) where
  mem := by simp
  obj := fun i h st b hb => by
    have e : b = it := by simpa using hb
    subst e
    obtain ⟨o, e, c, d⟩ := st
    exact ⟨o, e, fun v z => by rw [d] at z; cases z⟩
  keep := fun i h h' st k => st.at fun o e => k it (by simp) o e
  item := by
    intro X hP hw hK hc i pins s σ H E I hf st hg
    subst hP hw hK
    obtain ⟨xs, x, hq, hx⟩ := hg
    obtain ⟨its, rv, p, hz⟩ := I.tuple hq
    obtain ⟨u, hu, ru⟩ := rv.get hx
    obtain ⟨f0, f1, f2, f3, f4, f5⟩ := hf it (by simp)
    refine wpAny_pyNext_tuple_item st (show s.heap.IsTuple a its.toArray from p) (x := u) (by simpa using hu) fun h' st' sb => ?_
    have I1 : Inv X pins σ H { s with heap := h' } := I.turned (t' := s.toks) (fun b o hb e => (sb.2 b hb).trans e) f0 f1 f3 f4 f5
    obtain ⟨o, e, c, d⟩ := id st'
    exact ⟨u, rfl, go_of (s := { s with heap := h' }) e c d (by decide) ⟨x, H, I1, ru, ⟨rfl, fun ys hy => by rw [I.tuple_inj hy hq]; exact hx⟩, st', fun b hb => (hf b hb).1⟩⟩
  done := by
    intro X hP hw hK hc i pins s σ H E I hf st hg
    subst hP hw hK
    obtain ⟨xs, hq, hx⟩ := hg
    obtain ⟨its, rv, p, hz⟩ := I.tuple hq
    obtain ⟨f0, f1, f2, f3, f4, f5⟩ := hf it (by simp)
    have hl := rv.length
    exact wpAny_pyNext_tuple_end (I.ok.hd hc) st (show s.heap.IsTuple a its.toArray from p) (by simp; omega) fun h' eb => ⟨rfl, I.turned (t' := s.toks) (fun b o hb e => eb b o hb e) f0 f1 f3 f4 f5⟩
  self := fun _ _ _ _ _ st h => wpAny_pyIter_tupleiter st h
theorem turn_range {P : Program} {w : World} {K : PySem.W.Frag} {tg : Expr} (it : Addr) (lo : Int) (n : Nat) : Turn P w K tg (Itr lo n) [it] it (fun i h => IsRangeIter h it (lo + (i : Nat) * 1) ((n : Int) - (i : Nat)) 1) where
  mem := by simp
  obj := fun i h st b hb => by
    have e : b = it := by simpa using hb
    subst e
    exact ⟨_, st, fun v z => by
      have z' : Data.fields _ = Data.cell v := z
      cases z'⟩
  keep := fun i h h' st k => k it (by simp) _ st
  item := by
    intro X hP hw hK hc i pins s σ H E I hf st hg
    subst hP hw hK
    obtain ⟨f0, f1, f2, f3, f4, f5⟩ := hf it (by simp)
    have W := Walks.range (prog := X.prog) (w := X.w) (I.ok.hd hc) it lo 1 n
    refine W.item i s _ _ hg st fun v h' tk hv st' kk => ?_
    obtain ⟨t, rfl⟩ := hv
    have I1 : Inv X pins σ H { s with heap := h', toks := tk } := I.turned (fun b o hb e => kk b o (by simpa using hb) e) f0 f1 f3 f4 f5
    refine ⟨_, rfl, go_of (s := { s with heap := h', toks := tk }) (n := "range_iterator") st' rfl rfl (by decide) ⟨.int (lo + i), H, I1, ⟨t, ?_⟩, ⟨rfl, rfl⟩, st', fun b hb => (hf b hb).1⟩⟩
    rw [Int.mul_one]
  done := by
    intro X hP hw hK hc i pins s σ H E I hf st hg
    subst hP hw hK
    obtain ⟨f0, f1, f2, f3, f4, f5⟩ := hf it (by simp)
    exact wpAny_pyNext_range_end (I.ok.hd hc) st (by have : n ≤ i := hg; omega) fun h' eb => ⟨rfl, I.turned (t' := s.toks) (fun b o hb e => eb b o hb e) f0 f1 f3 f4 f5⟩
  self := fun _ _ _ _ _ st h => wpAny_pyIter_rangeiter st h
end L2

namespace L2
open PySem PySem.Spec PyProof.Rows
section
variable {X : Cx} {tg : Expr}
def iList (K : PySem.W.Frag) (tl : TE) : TI := fun σ H R => tl σ H fun x H1 => ∃ a, x = .ref a ∧ (∃ xs, SqL K H1 a xs) ∧ R (Itl K a) H1
def iTup (K : PySem.W.Frag) (tl : TE) : TI := fun σ H R => tl σ H fun x H1 => ∃ a, x = .ref a ∧ (∃ xs, SqT K H1 a xs) ∧ R (Itt K a) H1
theorem pi_list {l : Expr} {tl : TE} (hl : PE X l tl) : PI X tg l (iList X.K tl) := by
  intro pins s σ H R I h
  refine thn (hl pins s σ H _ I h) fun v s1 ⟨x, H1, I1, r1, q1⟩ => ?_
  obtain ⟨a, e, ⟨xs, hq⟩, q⟩ := q1
  subst e
  cases r1
  obtain ⟨its, rv, p, hz⟩ := I1.list hq
  refine wpAny_pyIter_list p.isList ?_
  refine ⟨s1.heap.objs.size, [s1.heap.objs.size], _, _, H1, rfl, I1.kept (t' := s1.toks) fun b o e => Heap.get?_push_of_some _ e, turn_list a _, ⟨_, Heap.get?_push_size _ rfl, rfl, rfl⟩, fun b hb => ?_, q⟩
  have e : b = s1.heap.objs.size := by simpa using hb
  subst e
  exact I1.fpOk (Nat.le_refl _) (I1.hok.fresh (Nat.le_refl _))
theorem pi_tup {l : Expr} {tl : TE} (hl : PE X l tl) : PI X tg l (iTup X.K tl) := by
  intro pins s σ H R I h
  refine thn (hl pins s σ H _ I h) fun v s1 ⟨x, H1, I1, r1, q1⟩ => ?_
  obtain ⟨a, e, ⟨xs, hq⟩, q⟩ := q1
  subst e
  cases r1
  obtain ⟨its, rv, p, hz⟩ := I1.tuple hq
  refine wpAny_pyIter_tuple (show s1.heap.IsTuple a its.toArray from p) ?_
  refine ⟨s1.heap.objs.size, [s1.heap.objs.size], _, _, H1, rfl, I1.kept (t' := s1.toks) fun b o e => Heap.get?_push_of_some _ e, turn_tuple a _, ⟨_, Heap.get?_push_size _ rfl, rfl, rfl⟩, fun b hb => ?_, q⟩
  have e : b = s1.heap.objs.size := by simpa using hb
  subst e
  exact I1.fpOk (Nat.le_refl _) (I1.hok.fresh (Nat.le_refl _))
theorem range_it {pins : List (Addr × Obj)} {σ : St} {H : Hp} {s : Shared} {R : It → Hp → Prop} {E : Value → Shared → Prop} {lo hi : Int} {t u v : Tok} {tk : Nat} (I : Inv X pins σ H s) (h1 : -(2 ^ 62) ≤ lo) (h2 : lo < 2 ^ 62) (h3 : -(2 ^ 62) ≤ hi) (h4 : hi < 2 ^ 62)
    (q : R (Itr lo (hi - lo).toNat) H) : wpAny (model X.prog X.w) X.A (pyIter (.ref s.heap.objs.size)) (PIE X pins σ tg R) E { s with heap := s.heap.push { cls := .type "range", data := .fields #[.int lo t, .int hi u, .int 1 v] }, toks := tk } := by
  refine wpAny_pyIter_range (IsRange.new ..) (small_one h1 h2 h3 h4) ?_
  have I1 : Inv X pins σ H { s with heap := s.heap.push { cls := .type "range", data := .fields #[.int lo t, .int hi u, .int 1 v] }, toks := tk } := I.kept fun b o e => Heap.get?_push_of_some _ e
  refine ⟨(s.heap.push { cls := .type "range", data := .fields #[.int lo t, .int hi u, .int 1 v] }).objs.size, [(s.heap.push { cls := .type "range", data := .fields #[.int lo t, .int hi u, .int 1 v] }).objs.size], _, _, H, rfl,
    I1.kept (t' := tk) fun b o e => Heap.get?_push_of_some _ e, turn_range _ lo (hi - lo).toNat, ?_, fun b hb => ?_, q⟩
  · have e1 : lo + ((0 : Nat) : Int) * 1 = lo := by simp
    have e2 : (((hi - lo).toNat : Nat) : Int) - ((0 : Nat) : Int) = Builtin.Range.rangeSize lo hi 1 := by rw [rangeSize_one]; split <;> omega
    show IsRangeIter _ _ (lo + ((0 : Nat) : Int) * 1) ((((hi - lo).toNat : Nat) : Int) - ((0 : Nat) : Int)) 1
    rw [e1, e2]
    exact Heap.get?_push_size _ rfl
  · have e : b = (s.heap.push { cls := .type "range", data := .fields #[.int lo t, .int hi u, .int 1 v] }).objs.size := by simpa using hb
    subst e
    exact I1.fpOk (Nat.le_refl _) (I1.hok.fresh (Nat.le_refl _))
def iRng1 (ta : TA) : TI := fun σ H R => ta σ H fun vs H1 => ∃ j : Int, vs = [.int j] ∧ -(2 ^ 62) ≤ j ∧ j < 2 ^ 62 ∧ R (Itr 0 j.toNat) H1
theorem pi_range1 {a : Expr} {ta : TA} {p pos : Pos} (hg : Gl X "range") (hm : X.mg "range" = none) (ha : PA X [a] ta) (hs : starEach [a] X.env = [(false, eval a X.env)] := by rfl) : PI X tg (.Call (.Name "range" p) [a] [] pos) (iRng1 ta) := by
  intro pins s σ H R I h
  refine Call_ (ld_blt I hg hm boot_range (PyProof.Rows.callWith_type1 (thn (ha pos pins s σ H _ I h) fun us s1 ⟨vs, H1, I1, r1, q1⟩ => ?_) hs rfl))
  obtain ⟨j, e, q1, q2, q⟩ := q1
  subst e
  cases r1 with
  | cons r rr =>
    cases rr
    obtain ⟨t, rfl⟩ := r
    exact call_range_1 (range_it I1 (by omega) (by omega) q1 q2 (by simpa using q))
def tFor (wi : TI) (g : TG) (tb : TS) : TS := fun D σ H => wi σ H fun J H1 => ∃ W : Nat → Nat → St → Hp → Prop, (∃ m, W 0 m σ H1) ∧ ∀ i m σ H, W i m σ H →
  (J.stop i H ∧ D.nx σ H) ∨ (J.go i H ∧ ∃ N : St → Hp → Prop, (∀ σ' H', N σ' H' → ∃ m', m' < m ∧ W (i + 1) m' σ' H') ∧ ∀ x H', J.yld i H x H' → g x σ H' fun σ2 H2 => tb { D with nx := N, ct := N, bk := D.nx } σ2 H2)
def pinsAt (fp : List Addr) (h : Heap) : List (Addr × Obj) := fp.filterMap fun b => (h.get? b).map fun o => (b, o)
theorem mem_pinsAt {fp : List Addr} {h : Heap} {b : Addr} {o : Obj} (hb : b ∈ fp) (e : h.get? b = some o) : (b, o) ∈ pinsAt fp h := List.mem_filterMap.mpr ⟨b, hb, by rw [e]; rfl⟩
theorem of_pinsAt {fp : List Addr} {h : Heap} {p : Addr × Obj} (hp : p ∈ pinsAt fp h) : p.1 ∈ fp ∧ h.get? p.1 = some p.2 := by
  obtain ⟨b, hb, e⟩ := List.mem_filterMap.mp hp
  cases q : h.get? b with
  | none => rw [q] at e; cases e
  | some o =>
    rw [q] at e
    have e' : (b, o) = p := Option.some.inj e
    subst e'
    exact ⟨hb, q⟩
theorem Inv.pinned {pins : List (Addr × Obj)} {σ : St} {H : Hp} {s : Shared} {fp : List Addr} (I : Inv X pins σ H s) (hf : ∀ b ∈ fp, FpOk X pins H b) (ho : ∀ b ∈ fp, ∃ o, s.heap.get? b = some o ∧ ∀ v, o.data ≠ .cell v) : Inv X (pins ++ pinsAt fp s.heap) σ H s :=
  I.pins_of fun p hp => (List.mem_append.mp hp).elim (fun z => I.pin p (List.mem_append_right _ z)) fun z => by
    obtain ⟨hb, e⟩ := of_pinsAt z
    obtain ⟨f0, f1, f2, _⟩ := hf p.1 hb
    obtain ⟨o, e', d⟩ := ho p.1 hb
    rw [e] at e'; cases e'
    exact ⟨e, f0, f1, f2, d⟩
theorem Inv.unpinned {pins pl : List (Addr × Obj)} {σ : St} {H : Hp} {s : Shared} (I : Inv X (pins ++ pl) σ H s) : Inv X pins σ H s := I.pins_of fun p hp => I.pin p (List.mem_append_right _ (List.mem_append_left _ hp))
theorem ps_for {iter : Expr} {body : List Stmt} {wi : TI} {g : TG} {tb : TS} {pos : Pos} (hp : PassesOwn (model X.prog X.w) X.A X.env X.xe) (hc : X.calm = true) (hi : PI X tg iter wi) (hg : PG X tg g) (hb : PSs X body tb)
    (hs : ∀ x, foldedSetIterable iter X.env x = pure x := by intro _; rfl) : PS X (.For tg iter body [] pos) (tFor wi g tb) := by
  intro pins s σ H D I h
  refine wpAny_For (thn (hi pins s σ H _ I h) fun v s1 h1 => thn h1 fun itv s2 h2 => ?_) hs
  obtain ⟨it, fp, tn, J, H2, e, I2, T, st2, f2, W, ⟨m0, w0⟩, turn⟩ := h2
  subst e
  -- what stays true of the iterator's objects through the loop
  have stat : ∀ {H' : Hp}, (∀ b ∈ fp, H' b = none) → ∀ b ∈ fp, FpOk X pins H' b := fun hn b hb => ⟨hn b hb, (f2 b hb).2⟩
  refine codeAny_forLoop_any (fun n s' => ∃ i σ' H', Inv X pins σ' H' s' ∧ tn i s'.heap ∧ (∀ b ∈ fp, H' b = none) ∧ W i n σ' H') ?_ m0 ⟨0, σ, H2, I2, st2, fun b hb => (f2 b hb).1, w0⟩
  rintro n s3 ⟨i, σ3, H3, I3, st3, fr3, w3⟩
  rcases turn i n σ3 H3 w3 with ⟨stop, qn⟩ | ⟨go, N, hN, step⟩
  · refine wpAny_passesOwn hp (thn (T.done X rfl rfl rfl hc i pins s3 σ3 H3 X.xe I3 (stat fr3) st3 stop) fun r s4 ⟨hr, I4⟩ => ?_)
    subst hr
    exact wpAny_execs_nil ⟨σ3, H3, I4, qn⟩
  · refine wpAny_passesOwn hp (thn (T.item X rfl rfl rfl hc i pins s3 σ3 H3 X.xe I3 (stat fr3) st3 go) fun r s4 ⟨u, hr, h4⟩ => ?_)
    subst hr
    refine wpAny_passesOwn hp (thn h4 fun _ s5 ⟨x, H5, I5, r5, y5, st5, fr5⟩ => ?_)
    have I5' := I5.pinned (stat fr5) (T.obj _ _ st5)
    refine wpAny_passesOwn hp (thn (hg _ s5 σ3 H5 x u _ I5' r5 (step x H5 y5)) fun _ s6 ⟨σ6, H6, I6, q6⟩ => ?_)
    refine wpAny_passesOwn hp (thn (hb _ s6 σ6 H6 _ I6 q6) fun f s7 q7 => ?_)
    have again : ∀ {σ7 : St} {H7 : Hp}, Inv X (pins ++ pinsAt fp s5.heap) σ7 H7 s7 → N σ7 H7 → ∃ m, m < n ∧ ∃ i σ' H', Inv X pins σ' H' s7 ∧ tn i s7.heap ∧ (∀ b ∈ fp, H' b = none) ∧ W i m σ' H' := fun {σ7 H7} I7 n7 => by
      obtain ⟨m', hm, w7⟩ := hN σ7 H7 n7
      refine ⟨m', hm, i + 1, σ7, H7, I7.unpinned, T.keep _ _ _ st5 fun b hb o e => (I7.pin (b, o) (List.mem_append_right _ (List.mem_append_right _ (mem_pinsAt hb e)))).1, fun b hb => ?_, w7⟩
      obtain ⟨o, e, d⟩ := T.obj _ _ st5 b hb
      exact (I7.pin (b, o) (List.mem_append_right _ (List.mem_append_right _ (mem_pinsAt hb e)))).2.1
    cases f with
    | next => obtain ⟨σ7, H7, I7, n7⟩ := q7; exact again I7 n7
    | cont => obtain ⟨σ7, H7, I7, n7⟩ := q7; exact again I7 n7
    | brk => obtain ⟨σ7, H7, I7, q7⟩ := q7; exact ⟨σ7, H7, I7.unpinned, q7⟩
    | ret v => obtain ⟨x7, σ7, H7, I7, r7, q7⟩ := q7; exact ⟨x7, σ7, H7, I7.unpinned, r7, q7⟩
end

theorem for_list {K : PySem.W.Frag} {a : Addr} {xs : List V} {g : TG} {tb : TS} {D : Ends} {σ : St} {H : Hp} (Pv : Nat → St → Hp → Prop) (h0 : Pv 0 σ H) (hl : ∀ i σ H, i ≤ xs.length → Pv i σ H → SqL K H a xs)
    (hs : ∀ i x σ H, xs[i]? = some x → Pv i σ H → g x σ H fun σ2 H2 => tb { D with nx := Pv (i + 1), ct := Pv (i + 1), bk := D.nx } σ2 H2) (hd : ∀ σ H, Pv xs.length σ H → D.nx σ H) :
    ∃ W : Nat → Nat → St → Hp → Prop, (∃ m, W 0 m σ H) ∧ ∀ i m σ H, W i m σ H →
      ((Itl K a).stop i H ∧ D.nx σ H) ∨ ((Itl K a).go i H ∧ ∃ N : St → Hp → Prop, (∀ σ' H', N σ' H' → ∃ m', m' < m ∧ W (i + 1) m' σ' H') ∧ ∀ x H', (Itl K a).yld i H x H' → g x σ H' fun σ2 H2 => tb { D with nx := N, ct := N, bk := D.nx } σ2 H2) := by
  refine ⟨fun i m σ H => m = xs.length - i ∧ i ≤ xs.length ∧ Pv i σ H, ⟨xs.length, by simp, Nat.zero_le _, h0⟩, ?_⟩
  rintro i m σ H ⟨rfl, hi, p⟩
  have q := hl i σ H hi p
  by_cases hlt : i < xs.length
  · refine .inr ⟨⟨xs, xs[i], q, by simp [hlt]⟩, Pv (i + 1), fun σ' H' p' => ⟨xs.length - (i + 1), by omega, rfl, hlt, p'⟩, fun x H' y => ?_⟩
    obtain ⟨e, y⟩ := y
    subst e
    exact hs i x σ _ (y xs q) p
  · have e : i = xs.length := by omega
    subst e
    exact .inl ⟨⟨xs, q, Nat.le_refl _⟩, hd σ H p⟩
theorem for_tup {K : PySem.W.Frag} {a : Addr} {xs : List V} {g : TG} {tb : TS} {D : Ends} {σ : St} {H : Hp} (Pv : Nat → St → Hp → Prop) (h0 : Pv 0 σ H) (hl : ∀ i σ H, i ≤ xs.length → Pv i σ H → SqT K H a xs)
    (hs : ∀ i x σ H, xs[i]? = some x → Pv i σ H → g x σ H fun σ2 H2 => tb { D with nx := Pv (i + 1), ct := Pv (i + 1), bk := D.nx } σ2 H2) (hd : ∀ σ H, Pv xs.length σ H → D.nx σ H) :
    ∃ W : Nat → Nat → St → Hp → Prop, (∃ m, W 0 m σ H) ∧ ∀ i m σ H, W i m σ H →
      ((Itt K a).stop i H ∧ D.nx σ H) ∨ ((Itt K a).go i H ∧ ∃ N : St → Hp → Prop, (∀ σ' H', N σ' H' → ∃ m', m' < m ∧ W (i + 1) m' σ' H') ∧ ∀ x H', (Itt K a).yld i H x H' → g x σ H' fun σ2 H2 => tb { D with nx := N, ct := N, bk := D.nx } σ2 H2) := by
  refine ⟨fun i m σ H => m = xs.length - i ∧ i ≤ xs.length ∧ Pv i σ H, ⟨xs.length, by simp, Nat.zero_le _, h0⟩, ?_⟩
  rintro i m σ H ⟨rfl, hi, p⟩
  have q := hl i σ H hi p
  by_cases hlt : i < xs.length
  · refine .inr ⟨⟨xs, xs[i], q, by simp [hlt]⟩, Pv (i + 1), fun σ' H' p' => ⟨xs.length - (i + 1), by omega, rfl, hlt, p'⟩, fun x H' y => ?_⟩
    obtain ⟨e, y⟩ := y
    subst e
    exact hs i x σ _ (y xs q) p
  · have e : i = xs.length := by omega
    subst e
    exact .inl ⟨⟨xs, q, Nat.le_refl _⟩, hd σ H p⟩
theorem for_range {lo : Int} {n : Nat} {g : TG} {tb : TS} {D : Ends} {σ : St} {H : Hp} (Pv : Nat → St → Hp → Prop) (h0 : Pv 0 σ H)
    (hs : ∀ i σ H, i < n → Pv i σ H → g (.int (lo + i)) σ H fun σ2 H2 => tb { D with nx := Pv (i + 1), ct := Pv (i + 1), bk := D.nx } σ2 H2) (hd : ∀ σ H, Pv n σ H → D.nx σ H) :
    ∃ W : Nat → Nat → St → Hp → Prop, (∃ m, W 0 m σ H) ∧ ∀ i m σ H, W i m σ H →
      ((Itr lo n).stop i H ∧ D.nx σ H) ∨ ((Itr lo n).go i H ∧ ∃ N : St → Hp → Prop, (∀ σ' H', N σ' H' → ∃ m', m' < m ∧ W (i + 1) m' σ' H') ∧ ∀ x H', (Itr lo n).yld i H x H' → g x σ H' fun σ2 H2 => tb { D with nx := N, ct := N, bk := D.nx } σ2 H2) := by
  refine ⟨fun i m σ H => m = n - i ∧ i ≤ n ∧ Pv i σ H, ⟨n, by simp, Nat.zero_le _, h0⟩, ?_⟩
  rintro i m σ H ⟨rfl, hi, p⟩
  by_cases hlt : i < n
  · refine .inr ⟨hlt, Pv (i + 1), fun σ' H' p' => ⟨n - (i + 1), by omega, rfl, hlt, p'⟩, fun x H' y => ?_⟩
    obtain ⟨e, y⟩ := y
    subst e y
    exact hs i σ _ hlt p
  · have e : i = n := by omega
    subst e
    exact .inl ⟨Nat.le_refl _, hd σ H p⟩
end L2

namespace L2
open PySem PySem.Spec PyProof.Rows

abbrev R2 := V → V → Hp → VK → Prop
def OpR (X : Cx) (f : Value → Value → Sem Value) (r : R2) : Prop :=
  ∀ (pins : List (Addr × Obj)) (s : Shared) (σ : St) (H : Hp) (x y : V) (v u : Value) (Q : VK), Inv X pins σ H s → RelV x v → RelV y u → r x y H Q →
    wpAny (model X.prog X.w) X.A (f v u) (EP X pins σ Q) X.xe s
def UnR (X : Cx) (f : Value → Sem Value) (r : V → Hp → VK → Prop) : Prop :=
  ∀ (pins : List (Addr × Obj)) (s : Shared) (σ : St) (H : Hp) (x : V) (v : Value) (Q : VK), Inv X pins σ H s → RelV x v → r x H Q →
    wpAny (model X.prog X.w) X.A (f v) (EP X pins σ Q) X.xe s
def CallR (X : Cx) (f : Value) (r : List V → Hp → VK → Prop) : Prop :=
  ∀ (pins : List (Addr × Obj)) (s : Shared) (σ : St) (H : Hp) (xs : List V) (us : List Value) (Q : VK), Inv X pins σ H s → Vals xs us → r xs H Q →
    wpAny (model X.prog X.w) X.A (call f us) (EP X pins σ Q) X.xe s
def tOp (r : R2) (ta tb : TE) : TE := fun σ H Q => ta σ H fun x H1 => tb σ H1 fun y H2 => r x y H2 Q
def tUn (r : V → Hp → VK → Prop) (ta : TE) : TE := fun σ H Q => ta σ H fun x H1 => r x H1 Q
def rI (C : Int → Int → Prop) (g : Int → Int → V) : R2 := fun x y H Q => ∃ i j, x = .int i ∧ y = .int j ∧ C i j ∧ Q (g i j) H
def rI0 (g : Int → Int → V) : R2 := fun x y H Q => ∃ i j, x = .int i ∧ y = .int j ∧ Q (g i j) H
def rU (g : Int → V) : V → Hp → VK → Prop := fun x H Q => ∃ i, x = .int i ∧ Q (g i) H

section
variable {X : Cx} {a b c : Expr} {ta tb tc : TE} {pos : Pos}

theorem binT (ha : PE X a ta) (hb : PE X b tb) {pins : List (Addr × Obj)} {s : Shared} {σ : St} {H : Hp} {R : V → V → Hp → Prop} (I : Inv X pins σ H s)
    (h : ta σ H fun x H1 => tb σ H1 fun y H2 => R x y H2) {Q : Value → Shared → Prop} {f : Value → Value → Sem Value}
    (hf : ∀ v u s2 x y H2, Inv X pins σ H2 s2 → RelV x v → RelV y u → R x y H2 → wpAny (model X.prog X.w) X.A (f v u) Q X.xe s2) :
    wpAny (model X.prog X.w) X.A (eval a X.env) (fun v s₁ => wpAny (model X.prog X.w) X.A (eval b X.env) (fun u s₂ => wpAny (model X.prog X.w) X.A (f v u) Q X.xe s₂) X.xe s₁) X.xe s := by
  refine thn (ha pins s σ H _ I h) fun v s1 ⟨x, H1, I1, r1, q1⟩ => ?_
  refine thn (hb pins s1 σ H1 _ I1 q1) fun u s2 ⟨y, H2, I2, r2, q2⟩ => ?_
  exact hf v u s2 x y H2 I2 r1 r2 q2

theorem pe_op {op : Operator} {r : R2} (ho : OpR X (binaryOp op) r) (ha : PE X a ta) (hb : PE X b tb) : PE X (.BinOp a op b pos) (tOp r ta tb) := by
  intro pins s σ H Q I h
  exact wpAny_BinOp (binT ha hb I h fun v u s2 x y H2 I2 rx ry q => ho pins s2 σ H2 x y v u Q I2 rx ry q)
theorem pe_un {op : UnaryOp} {r : V → Hp → VK → Prop} (ho : UnR X (unaryOp op) r) (ha : PE X a ta) : PE X (.UnaryOp op a pos) (tUn r ta) := by
  intro pins s σ H Q I h
  exact UnaryOp_ (thn (ha pins s σ H _ I h) fun v s1 ⟨x, H1, I1, r1, q1⟩ => ho pins s1 σ H1 x v Q I1 r1 q1)
theorem opI {f : Value → Value → Sem Value} {C : Int → Int → Prop} {g : Int → Int → Int}
    (rule : ∀ (i j : Int) (t u : Tok) (s : Shared) (Q : Value → Shared → Prop) (E : Value → Shared → Prop), C i j → Q (.int (g i j) s.toks) { s with toks := s.toks + 1 } → wpAny (model X.prog X.w) X.A (f (.int i t) (.int j u)) Q E s) :
    OpR X f (rI C fun i j => .int (g i j)) := by
  intro pins s σ H x y v u Q I rx ry h
  obtain ⟨i, j, rfl, rfl, hc, q⟩ := h
  obtain ⟨t, rfl⟩ := rx
  obtain ⟨t', rfl⟩ := ry
  exact rule i j t t' s _ _ hc ⟨.int (g i j), H, I.tok _, ⟨_, rfl⟩, q⟩
theorem opI0 {f : Value → Value → Sem Value} {g : Int → Int → Int}
    (rule : ∀ (i j : Int) (t u : Tok) (s : Shared) (Q : Value → Shared → Prop) (E : Value → Shared → Prop), Q (.int (g i j) s.toks) { s with toks := s.toks + 1 } → wpAny (model X.prog X.w) X.A (f (.int i t) (.int j u)) Q E s) :
    OpR X f (rI0 fun i j => .int (g i j)) := by
  intro pins s σ H x y v u Q I rx ry h
  obtain ⟨i, j, rfl, rfl, q⟩ := h
  obtain ⟨t, rfl⟩ := rx
  obtain ⟨t', rfl⟩ := ry
  exact rule i j t t' s _ _ ⟨.int (g i j), H, I.tok _, ⟨_, rfl⟩, q⟩
theorem opB0 {f : Value → Value → Sem Value} {g : Int → Int → Bool}
    (rule : ∀ (i j : Int) (t u : Tok) (s : Shared) (Q : Value → Shared → Prop) (E : Value → Shared → Prop), Q (.bool (g i j)) s → wpAny (model X.prog X.w) X.A (f (.int i t) (.int j u)) Q E s) :
    OpR X f (rI0 fun i j => .bl (g i j)) := by
  intro pins s σ H x y v u Q I rx ry h
  obtain ⟨i, j, rfl, rfl, q⟩ := h
  obtain ⟨t, rfl⟩ := rx
  obtain ⟨t', rfl⟩ := ry
  exact rule i j t t' s _ _ ⟨.bl (g i j), H, I, rfl, q⟩

def CDiv (i j : Int) : Prop := 0 < j ∧ j < 1073741824
def CPow (i j : Int) : Prop := 0 ≤ j ∧ j ≤ 1000000 ∧ i.natAbs < 2 ^ 64
def CMul (i j : Int) : Prop := (-(2 ^ 64) < i ∧ i < 2 ^ 64) ∨ (-(2 ^ 64) < j ∧ j < 2 ^ 64)
theorem CMul.ok {i j : Int} (h : CMul i j) : IntMulOk i j := by
  rcases h with ⟨h1, h2⟩ | ⟨h1, h2⟩
  · exact .of_left (intBits_le_64 h1 h2)
  · exact .of_right (intBits_le_64 h1 h2)
theorem op_add : OpR X (binaryOp .Add) (rI0 fun i j => .int (i + j)) := opI0 fun _ _ _ _ _ _ _ q => add_int q
theorem op_sub : OpR X (binaryOp .Sub) (rI0 fun i j => .int (i - j)) := opI0 fun _ _ _ _ _ _ _ q => sub_int q
theorem op_mul : OpR X (binaryOp .Mult) (rI CMul fun i j => .int (i * j)) := opI fun _ _ _ _ _ _ _ hc q => mul_int q hc.ok
theorem op_fdiv : OpR X (binaryOp .FloorDiv) (rI CDiv fun i j => .int (i / j)) := opI fun i j _ _ _ _ _ hc q => by
  have h1 : (0 : Int) < j := hc.1
  have h2 : j < 1073741824 := hc.2
  exact floordiv_int (by omega) (by rw [Int.fdiv_eq_ediv_of_nonneg i (by omega)]; exact q) (.inl (PyProof.noPylong_small (by omega)))
theorem op_mod : OpR X (binaryOp .Mod) (rI (fun _ j => 0 < j) fun i j => .int (i % j)) := opI fun i j _ _ _ _ _ hc q => by
  have h1 : (0 : Int) < j := hc
  exact mod_int' (by omega) (by rw [Int.fmod_eq_emod_of_nonneg i (by omega)]; exact q)
theorem op_pow : OpR X (binaryOp .Pow) (rI CPow fun i j => .int (i ^ j.toNat)) := opI fun _ _ _ _ _ _ _ hc q => pow_int_small hc.1 hc.2.1 hc.2.2 q
theorem unI {f : Value → Sem Value} {g : Int → Int}
    (rule : ∀ (i : Int) (t : Tok) (s : Shared) (Q : Value → Shared → Prop) (E : Value → Shared → Prop), Q (.int (g i) s.toks) { s with toks := s.toks + 1 } → wpAny (model X.prog X.w) X.A (f (.int i t)) Q E s) :
    UnR X f (rU fun i => .int (g i)) := by
  intro pins s σ H x v Q I rx h
  obtain ⟨i, rfl, q⟩ := h
  obtain ⟨t, rfl⟩ := rx
  exact rule i t s _ _ ⟨.int (g i), H, I.tok _, ⟨_, rfl⟩, q⟩
theorem un_neg : UnR X (unaryOp .USub) (rU fun i => .int (-i)) := unI fun _ _ _ _ _ q => neg_int q
end

def scal : V → V → Bool
  | .non, .non => true | .non, .int _ => true | .int _, .non => true | .non, .bl _ => true | .bl _, .non => true | .non, .str _ => true | .str _, .non => true
  | .int _, .int _ => true | .bl _, .bl _ => true | .str _, .str _ => true | .byt _, .byt _ => true
  | .int _, .str _ => true | .str _, .int _ => true | .bl _, .str _ => true | .str _, .bl _ => true
  | _, _ => false
def rEq : R2 := fun x y H Q => scal x y = true ∧ Q (.bl (decide (x = y))) H
def rNe : R2 := fun x y H Q => scal x y = true ∧ Q (.bl (!decide (x = y))) H

theorem dec_int {i j : Int} : decide (V.int i = V.int j) = (i == j) := by
  rw [Bool.eq_iff_iff]
  simp
theorem dec_bl {i j : Bool} : decide (V.bl i = V.bl j) = (i == j) := by
  rw [Bool.eq_iff_iff]
  simp
theorem dec_str {i j : Str} : decide (V.str i = V.str j) = (i == j) := by
  rw [Bool.eq_iff_iff]
  simp
theorem dec_byt {i j : Array UInt8} : decide (V.byt i = V.byt j) = (i.toList == j.toList) := by
  rw [Bool.eq_iff_iff]
  cases i
  cases j
  simp

section
variable {X : Cx} {a b c : Expr} {ta tb tc : TE} {pos : Pos}
theorem fin_bl {pins : List (Addr × Obj)} {σ : St} {H : Hp} {s : Shared} {Q : VK} {k k' : Bool} (I : Inv X pins σ H s) (q : Q (.bl k) H) (e : k = k') : EP X pins σ Q (.bool k') s := by
  subst e
  exact ⟨.bl k, H, I, rfl, q⟩
theorem op_eq : OpR X (compareOp .Eq) rEq := by
  intro pins s σ H x y v u Q I rx ry h
  obtain ⟨hs, q⟩ := h
  cases x with
  | non =>
    cases rx
    cases y with
    | non => cases ry; exact PySem.EqNone.eq_none_none (fin_bl I q (by simp))
    | bl j => cases ry; exact PySem.EqNone.eq_none_bool (fin_bl I q (by simp))
    | int j => obtain ⟨t', rfl⟩ := ry; exact PySem.EqNone.eq_none_int (fin_bl I q (by simp))
    | str j => obtain ⟨t', rfl⟩ := ry; exact PySem.EqNone.eq_none_str (fin_bl I q (by simp))
    | _ => exact absurd (show false = true from hs) Bool.false_ne_true
  | bl i =>
    cases rx
    cases y with
    | non => cases ry; exact PySem.EqNone.eq_bool_none (fin_bl I q (by simp))
    | bl j => cases ry; exact eq_bool (fin_bl I q dec_bl)
    | str j => obtain ⟨t', rfl⟩ := ry; exact PySem.EqMixed.eq_bool_str (fin_bl I q (by simp))
    | _ => exact absurd (show false = true from hs) Bool.false_ne_true
  | int i =>
    obtain ⟨t, rfl⟩ := rx
    cases y with
    | non => cases ry; exact PySem.EqNone.eq_int_none (fin_bl I q (by simp))
    | int j => obtain ⟨t', rfl⟩ := ry; exact eq_int (fin_bl I q dec_int)
    | str j => obtain ⟨t', rfl⟩ := ry; exact PySem.EqMixed.eq_int_str (fin_bl I q (by simp))
    | _ => exact absurd (show false = true from hs) Bool.false_ne_true
  | str i =>
    obtain ⟨t, rfl⟩ := rx
    cases y with
    | non => cases ry; exact PySem.EqNone.eq_str_none (fin_bl I q (by simp))
    | bl j => cases ry; exact PySem.EqMixed.eq_str_bool (fin_bl I q (by simp))
    | int j => obtain ⟨t', rfl⟩ := ry; exact PySem.EqMixed.eq_str_int (fin_bl I q (by simp))
    | str j => obtain ⟨t', rfl⟩ := ry; exact eq_str (fin_bl I q dec_str)
    | _ => exact absurd (show false = true from hs) Bool.false_ne_true
  | byt i =>
    obtain ⟨t, rfl⟩ := rx
    cases y with
    | byt j => obtain ⟨t', rfl⟩ := ry; exact PySem.W.eq_bytes (fin_bl I q dec_byt)
    | _ => exact absurd (show false = true from hs) Bool.false_ne_true
  | _ => cases y <;> exact absurd (show false = true from hs) Bool.false_ne_true
theorem op_ne : OpR X (compareOp .NotEq) rNe := by
  intro pins s σ H x y v u Q I rx ry h
  obtain ⟨hs, q⟩ := h
  cases x with
  | non =>
    cases rx
    cases y with
    | non => cases ry; exact PySem.EqNone.ne_none_none (fin_bl I q (by simp))
    | bl j => cases ry; exact PySem.EqNone.ne_none_bool (fin_bl I q (by simp))
    | int j => obtain ⟨t', rfl⟩ := ry; exact PySem.EqNone.ne_none_int (fin_bl I q (by simp))
    | str j => obtain ⟨t', rfl⟩ := ry; exact PySem.EqNone.ne_none_str (fin_bl I q (by simp))
    | _ => exact absurd (show false = true from hs) Bool.false_ne_true
  | bl i =>
    cases rx
    cases y with
    | non => cases ry; exact PySem.EqNone.ne_bool_none (fin_bl I q (by simp))
    | bl j => cases ry; exact ne_bool (fin_bl I q (congrArg not dec_bl))
    | str j => obtain ⟨t', rfl⟩ := ry; exact PySem.EqMixed.ne_bool_str (fin_bl I q (by simp))
    | _ => exact absurd (show false = true from hs) Bool.false_ne_true
  | int i =>
    obtain ⟨t, rfl⟩ := rx
    cases y with
    | non => cases ry; exact PySem.EqNone.ne_int_none (fin_bl I q (by simp))
    | int j => obtain ⟨t', rfl⟩ := ry; exact ne_int (fin_bl I q (congrArg not dec_int))
    | str j => obtain ⟨t', rfl⟩ := ry; exact PySem.EqMixed.ne_int_str (fin_bl I q (by simp))
    | _ => exact absurd (show false = true from hs) Bool.false_ne_true
  | str i =>
    obtain ⟨t, rfl⟩ := rx
    cases y with
    | non => cases ry; exact PySem.EqNone.ne_str_none (fin_bl I q (by simp))
    | bl j => cases ry; exact PySem.EqMixed.ne_str_bool (fin_bl I q (by simp))
    | int j => obtain ⟨t', rfl⟩ := ry; exact PySem.EqMixed.ne_str_int (fin_bl I q (by simp))
    | str j => obtain ⟨t', rfl⟩ := ry; exact ne_str (fin_bl I q (congrArg not dec_str))
    | _ => exact absurd (show false = true from hs) Bool.false_ne_true
  | byt i =>
    obtain ⟨t, rfl⟩ := rx
    cases y with
    | byt j => obtain ⟨t', rfl⟩ := ry; exact PySem.W.ne_bytes (fin_bl I q (congrArg not dec_byt))
    | _ => exact absurd (show false = true from hs) Bool.false_ne_true
  | _ => cases y <;> exact absurd (show false = true from hs) Bool.false_ne_true

theorem op_lt : OpR X (compareOp .Lt) (rI0 fun i j => .bl (decide (i < j))) := opB0 fun _ _ _ _ _ _ _ q => lt_int q
theorem op_le : OpR X (compareOp .LtE) (rI0 fun i j => .bl (decide (i ≤ j))) := opB0 fun _ _ _ _ _ _ _ q => le_int q
theorem op_gt : OpR X (compareOp .Gt) (rI0 fun i j => .bl (decide (j < i))) := opB0 fun _ _ _ _ _ _ _ q => gt_int q
theorem op_ge : OpR X (compareOp .GtE) (rI0 fun i j => .bl (decide (j ≤ i))) := opB0 fun _ _ _ _ _ _ _ q => ge_int q
theorem nomark (b : Expr) {op : CmpOp} (h : op ≠ .In := by decide) (h2 : op ≠ .NotIn := by decide) : behindInMarks op b = false := by
  have e1 : (op == CmpOp.In) = false := by cases op <;> first | rfl | exact absurd rfl h
  have e2 : (op == CmpOp.NotIn) = false := by cases op <;> first | rfl | exact absurd rfl h2
  cases b <;> simp [behindInMarks, e1, e2]
theorem pe_cmpR {op : CmpOp} {r : R2} (ho : OpR X (compareOp op) r) (ha : PE X a ta) (hb : PE X b tb) (hm : behindInMarks op b = false) : PE X (.Compare a [op] [b] pos) (tOp r ta tb) := by
  intro pins s σ H Q I h
  exact wpAny_Compare1 (binT ha hb I h fun v u s2 x y H2 I2 rx ry q => ho pins s2 σ H2 x y v u Q I2 rx ry q) hm
def tTest (t : TE) : TT := fun σ H Q => t σ H fun x H' => ∃ k, x = .bl k ∧ Q k H'
theorem pt_cmpR {op : CmpOp} {r : R2} (ho : OpR X (compareOp op) r) (ha : PE X a ta) (hb : PE X b tb) (hm : behindInMarks op b = false) : PT X (.Compare a [op] [b] pos) (tTest (tOp r ta tb)) := by
  intro pins s σ H Q I h
  refine wpAny_isTrue_Compare1 (thn (ha pins s σ H _ I h) fun v s1 ⟨x, H1, I1, r1, q1⟩ => thn (hb pins s1 σ H1 _ I1 q1) fun u s2 ⟨y, H2, I2, r2, q2⟩ =>
    thn (ho pins s2 σ H2 x y v u _ I2 r1 r2 q2) fun c s3 ⟨z, H3, I3, r3, k, e, q3⟩ => ?_) hm
  subst e
  cases r3
  exact wpAny_truthy_bool ⟨H3, I3, q3⟩
def tChain (r r' : R2) (ta tb tc : TE) : TE := fun σ H Q => ta σ H fun x H1 => tb σ H1 fun y H2 => r x y H2 fun z H3 => ∃ k, z = .bl k ∧
  (if k = true then tc σ H3 fun w' H4 => r' y w' H4 Q else Q (.bl false) H3)
theorem pe_chain {op op' : CmpOp} {r r' : R2} (ho : OpR X (compareOp op) r) (ho' : OpR X (compareOp op') r') (ha : PE X a ta) (hb : PE X b tb) (hc : PE X c tc)
    (hm : lastMarks [op, op'] [b, c] = false := by with_unfolding_all rfl) : PE X (.Compare a [op, op'] [b, c] pos) (tChain r r' ta tb tc) := by
  intro pins s σ H Q I h
  refine Compare_chain (thn (ha pins s σ H _ I h) fun v s1 ⟨x, H1, I1, r1, q1⟩ => chain_link (thn (hb pins s1 σ H1 _ I1 q1) fun u s2 ⟨y, H2, I2, r2, q2⟩ =>
    thn (ho pins s2 σ H2 x y v u _ I2 r1 r2 q2) fun d s3 ⟨z, H3, I3, r3, k, e, q3⟩ => ?_)) hm
  subst e
  cases r3
  refine wpAny_truthy_bool ?_
  cases k with
  | false => exact ite_ff ⟨.bl false, H3, I3, rfl, q3⟩
  | true => exact ite_tt (chain_last (thn (hc pins s3 σ H3 _ I3 q3) fun w' s4 ⟨z', H4, I4, r4, q4⟩ => ho' pins s4 σ H4 y z' u w' Q I4 r2 r4 q4))
theorem pt_chain {op op' : CmpOp} {r r' : R2} (ho : OpR X (compareOp op) r) (ho' : OpR X (compareOp op') r') (ha : PE X a ta) (hb : PE X b tb) (hc : PE X c tc)
    (hm : lastMarks [op, op'] [b, c] = false := by with_unfolding_all rfl) : PT X (.Compare a [op, op'] [b, c] pos) (tTest (tChain r r' ta tb tc)) := by
  intro pins s σ H Q I h
  refine isTrue_chain (thn (ha pins s σ H _ I h) fun v s1 ⟨x, H1, I1, r1, q1⟩ => test_link (thn (hb pins s1 σ H1 _ I1 q1) fun u s2 ⟨y, H2, I2, r2, q2⟩ =>
    thn (ho pins s2 σ H2 x y v u _ I2 r1 r2 q2) fun d s3 ⟨z, H3, I3, r3, k, e, q3⟩ => ?_)) hm
  subst e
  cases r3
  refine wpAny_truthy_bool ?_
  cases k with
  | false =>
    obtain ⟨k', e', q'⟩ := q3
    cases e'
    exact ite_ff ⟨H3, I3, q'⟩
  | true =>
    refine ite_tt (test_last (thn (hc pins s3 σ H3 _ I3 q3) fun w' s4 ⟨z', H4, I4, r4, q4⟩ => thn (ho' pins s4 σ H4 y z' u w' _ I4 r2 r4 q4) fun d' s5 ⟨z2, H5, I5, r5, k2, e2, q5⟩ => ?_))
    subst e2
    cases r5
    exact wpAny_truthy_bool ⟨H5, I5, q5⟩

theorem line63 : (sizeLine : Nat) < 2 ^ 63 := by rw [sizeLine_eq]; decide
theorem op_add_str : OpR X (binaryOp .Add) (fun x y H Q => ∃ i j, x = .str i ∧ y = .str j ∧ i.length + j.length ≤ sizeLine ∧ Q (.str (i ++ j)) H) := by
  intro pins s σ H x y v u Q I rx ry h
  obtain ⟨i, j, rfl, rfl, hz, q⟩ := h
  obtain ⟨t, rfl⟩ := rx
  obtain ⟨t', rfl⟩ := ry
  exact add_str (fun t' tk => ⟨.str (i ++ j), H, I.tok _, ⟨_, rfl⟩, q⟩) hz
theorem vals1 {x : V} {us : List Value} (r : Vals [x] us) : ∃ u, us = [u] ∧ RelV x u := by
  cases r with
  | cons r1 r2 => cases r2; exact ⟨_, rfl, r1⟩
theorem vals2 {x y : V} {us : List Value} (r : Vals [x, y] us) : ∃ u w', us = [u, w'] ∧ RelV x u ∧ RelV y w' := by
  cases r with
  | cons r1 r2 =>
    cases r2 with
    | cons r3 r4 => cases r4; exact ⟨_, _, rfl, r1, r3⟩
theorem call_abs : CallR X (.builtin "abs") (fun xs H Q => ∃ i, xs = [.int i] ∧ Q (.int (if i < 0 then -i else i)) H) := by
  intro pins s σ H xs us Q I r h
  obtain ⟨i, rfl, q⟩ := h
  obtain ⟨u, rfl, t, rfl⟩ := vals1 r
  exact call_abs_int fun u tk => ⟨.int (if i < 0 then -i else i), H, I.tok _, ⟨_, rfl⟩, q⟩
theorem call_max2 (hc : X.calm = true) : CallR X (.builtin "max") (fun xs H Q => ∃ i j, xs = [.int i, .int j] ∧ Q (.int (if j > i then j else i)) H) := by
  intro pins s σ H xs us Q I r h
  obtain ⟨i, j, rfl, q⟩ := h
  obtain ⟨u, w', rfl, ⟨t, rfl⟩, ⟨t', rfl⟩⟩ := vals2 r
  refine max_two_ints (I.ok.hd hc) fun h' tk k => ⟨_, H, I.kept k, ?_, q⟩
  by_cases hj : j > i
  · rw [if_pos hj, if_pos hj]; exact ⟨_, rfl⟩
  · rw [if_neg hj, if_neg hj]; exact ⟨_, rfl⟩
theorem call_min2 (hc : X.calm = true) : CallR X (.builtin "min") (fun xs H Q => ∃ i j, xs = [.int i, .int j] ∧ Q (.int (if j < i then j else i)) H) := by
  intro pins s σ H xs us Q I r h
  obtain ⟨i, j, rfl, q⟩ := h
  obtain ⟨u, w', rfl, ⟨t, rfl⟩, ⟨t', rfl⟩⟩ := vals2 r
  refine min_two_ints (I.ok.hd hc) fun h' tk k => ⟨_, H, I.kept k, ?_, q⟩
  by_cases hj : j < i
  · rw [if_pos hj, if_pos hj]; exact ⟨_, rfl⟩
  · rw [if_neg hj, if_neg hj]; exact ⟨_, rfl⟩
theorem call_int1 : CallR X (.type "int") (fun xs H Q => (∃ i, xs = [.int i] ∧ Q (.int i) H) ∨ ∃ k, xs = [.bl k] ∧ Q (.int (if k then 1 else 0)) H) := by
  intro pins s σ H xs us Q I r h
  rcases h with ⟨i, rfl, q⟩ | ⟨k, rfl, q⟩
  · obtain ⟨u, rfl, t, rfl⟩ := vals1 r
    exact call_int_int ⟨.int i, H, I, ⟨_, rfl⟩, q⟩
  · obtain ⟨u, rfl, r1⟩ := vals1 r
    cases r1
    exact call_int_bool ⟨.int (if k then 1 else 0), H, I.tok _, ⟨_, rfl⟩, q⟩
end
end L2

namespace L2
open PySem PySem.Spec PyProof.Rows

structure ObjM (h : Heap) (x dx C : Addr) (mA : Str → Option Value) : Prop where
  obj : h.get? x = some (PySem.W.instObj C dx)
  ns : h.Ns1 dx mA
  ne : dx ≠ x

theorem lookIn_ns {h : Heap} {dx : Addr} {mA : Str → Option Value} (n : h.Ns1 dx mA) : ∃ od, h.get? dx = some od ∧ ∀ name, PySem.W.lookIn name od = some (mA name) := by
  obtain ⟨o, es, ep, ho, hd, hk, _, hm⟩ := n
  refine ⟨o, ho, fun name => ?_⟩
  have e := hm name
  unfold nsFind findBy at e
  rw [← Array.find?_toList] at e
  unfold PySem.W.lookIn
  rw [hd]
  dsimp only
  split
  · rename_i y q
    rw [q] at e
    exact congrArg some e
  · rename_i q
    rw [q] at e
    have a : es.toList.any (·.refKey) = false := by
      rw [List.any_eq_false]
      intro y hy
      obtain ⟨z, t, hkey⟩ := hk y (Array.mem_toList_iff.mp hy)
      simp [DictEntry.refKey, hkey]
    have a' : ¬ es.toList.any (·.refKey) = true := by rw [a]; exact Bool.false_ne_true
    rw [if_neg a']
    exact congrArg some e

theorem ObjM.look {h : Heap} {x dx C : Addr} {mA : Str → Option Value} (I : ObjM h x dx C mA) : ∃ od, PySem.W.InstAt h x (PySem.W.instObj C dx) C (some od) ∧ ∀ name, PySem.W.lookIn name od = some (mA name) :=
  let ⟨od, ho, hl⟩ := lookIn_ns I.ns
  ⟨od, ⟨I.obj, rfl, rfl, ho⟩, hl⟩

section
variable {prog : Program} {w : World} {A : Around} {E : Value → Shared → Prop} {s : Shared} {K : PySem.W.Frag} {x dx C f : Addr} {mA : Str → Option Value} {name : Str} {v : Value}

end

theorem RelO.some_of {v : V} {o : Option Value} (r : RelO (some v) o) : ∃ u, o = some u ∧ RelV v u := by
  cases o with
  | none => exact (show False from r).elim
  | some u => exact ⟨u, rfl, r⟩
section
variable {P : Program} {w : World} {H H' : Hp} {h h' : Heap} {a C dx : Addr} {fs fs' : List (Str × V)}
theorem ins_get (hok : HOk P w H h) (e : H a = some (.ins C dx fs)) : ∃ mA, ObjM h a dx C mA ∧ (∀ f, RelO (fs.lookup f) (mA f)) ∧ PySem.Within mA (fs.map (·.1)) ∧ fs.length ≤ 1000 ∧ H dx = some (.own a) := by
  obtain ⟨d, z, ne, ob, mA, n, r, q⟩ := (show ObjOk P w H h a (.ins C dx fs) from hok a _ e)
  exact ⟨mA, ⟨ob, n, ne⟩, r, q, z, d⟩
end

structure Cls (K : PySem.W.Frag) (C : Addr) : Prop where
  pg : PySem.W.plainGet K C Str.empty = true
  hd : PySem.W.hasDictIn K C = true
  po : PySem.W.plainOver K C = true
  sa : PySem.W.findIn K (.ref C) "__setattr__" = some (some (.builtin "object.__setattr__"))
theorem Cls.get {K : PySem.W.Frag} {C : Addr} (c : Cls K C) (f : Str) : PySem.W.plainGet K C f = true := c.pg
section
variable {X : Cx} {pins : List (Addr × Obj)} {σ : St} {H : Hp} {s : Shared} {a C dx : Addr} {fs : List (Str × V)} {f : Str} {v : V} {A : Around} {E : Value → Shared → Prop}

theorem Inv.made (I : Inv X pins σ H s) : Inv X pins σ (upd (upd H s.heap.objs.size (.own (s.heap.objs.size + 1))) (s.heap.objs.size + 1) (.ins C s.heap.objs.size []))
    { s with heap := (s.heap.push PySem.W.emptyDict).push (PySem.W.instObj C s.heap.objs.size) } := by
  have e1 : (s.heap.push PySem.W.emptyDict).get? s.heap.objs.size = some PySem.W.emptyDict := Heap.get?_push_size s.heap rfl
  have e2 : ((s.heap.push PySem.W.emptyDict).push (PySem.W.instObj C s.heap.objs.size)).get? (s.heap.objs.size + 1) = some (PySem.W.instObj C s.heap.objs.size) := by
    have := Heap.get?_push_size (s.heap.push PySem.W.emptyDict) (o := PySem.W.instObj C s.heap.objs.size) rfl
    rwa [Heap.size_push] at this
  have e3 : (s.heap.push PySem.W.emptyDict).Ns s.heap.objs.size (fun _ => none) := ⟨PySem.W.emptyDict, #[], _, e1, rfl, (fun e he => absurd he (by simp)), fun _ => rfl⟩
  have I1 := I.laid (a := s.heap.objs.size) (o := .own (s.heap.objs.size + 1)) (h' := s.heap.push PySem.W.emptyDict) (t' := s.toks) (fun b u q => Heap.get?_push_of_some _ q) (Nat.le_refl _) ⟨_, e1⟩
  refine I1.laid (a := s.heap.objs.size + 1) (o := .ins C s.heap.objs.size []) (t' := s.toks) (fun b u q => Heap.get?_push_of_some _ q) (Nat.le_of_eq (Heap.size_push _ _)) ?_
  have ne : s.heap.objs.size ≠ s.heap.objs.size + 1 := Nat.ne_of_lt (Nat.lt_succ_self _)
  refine ⟨by rw [upd_ne ne, upd_same], Nat.zero_le _, ne, e2, fun _ => none, (Heap.Ns1.of_empty e3).at fun o q => Heap.get?_push_of_some _ q, fun _ => True.intro, fun y hy => absurd rfl hy⟩

end

section
variable {X : Cx} {o e value : Expr} {f : Str} {pos pos' tpos : Pos} {ta tv : TE}
end

section
variable {X : Cx} {pins : List (Addr × Obj)} {σ : St} {H : Hp} {s : Shared} {A : Around} {E : Value → Shared → Prop} {Q : Value → Shared → Prop} {c : Value} {b : Bool}
inductive TyOf (K : PySem.W.Frag) (H : Hp) : V → Value → Prop where
  | non : TyOf K H .non (.type "NoneType")
  | bl (x : Bool) : TyOf K H (.bl x) (.type "bool")
  | int (i : Int) : TyOf K H (.int i) (.type "int")
  | str (x : Str) : TyOf K H (.str x) (.type "str")
  | flt (x : UInt64) : TyOf K H (.flt x) (.type "float")
  | lst {a : Addr} {xs : List V} (e : H a = some (.lst xs)) : TyOf K H (.ref a) (.type "list")
  | frz {a : Addr} {o : Obj} {xs : List V} (e : H a = some (.frz o (.lst xs))) : TyOf K H (.ref a) (.type "list")
  | tup {a : Addr} {xs : List V} (e : H a = some (.tup xs)) : TyOf K H (.ref a) (.type "tuple")
  | dK {a : Addr} {kvs : List (Key × V)} (e : H a = some (.dK kvs)) : TyOf K H (.ref a) (.type "dict")
  | dT {a : Addr} {kvs : List (List Key × V)} (e : H a = some (.dT kvs)) : TyOf K H (.ref a) (.type "dict")
  | ins {a C dx : Addr} {fs : List (Str × V)} (e : H a = some (.ins C dx fs)) (cl : Cls K C) (ha : PySem.W.findIn K (.ref C) "__class__" = some (some (.builtin "object.__class__")))
      (hn : PySem.W.specialIn K (.builtin "object.__class__") "__get__" = some (some (.builtin "getset_descriptor.__get__"))) (htk : PySem.W.takesIn K (.builtin "object.__class__") = some true)
      (hm : PySem.W.mroIn K C (.type "object") = some true) : TyOf K H (.ref a) (.ref C)
theorem isinst_ok {x : V} {u t : Value} (I : Inv X pins σ H s) (rx : RelV x u) (ty : TyOf X.K H x t) (e : PySem.W.kitOne X.K t c = some b) (h : ∀ tk, Q (.bool b) { s with toks := tk }) :
    wpAny (model X.prog X.w) A (call (.builtin "isinstance") [u, c]) Q E s := by
  cases ty with
  | non => cases (show u = Value.none from rx); exact PySem.W.kia_one PySem.W.kitx_none I.kIn True.intro e (fun z => nomatch z) h
  | bl y => cases (show u = Value.bool y from rx); exact PySem.W.kia_one PySem.W.kitx_bool I.kIn True.intro e (fun z => nomatch z) h
  | int i => obtain ⟨t, q⟩ := (show ∃ t, u = Value.int i t from rx); cases q; exact PySem.W.kia_one PySem.W.kitx_int I.kIn True.intro e (fun z => nomatch z) h
  | str y => obtain ⟨t, q⟩ := (show ∃ t, u = Value.str y t from rx); cases q; exact PySem.W.kia_one PySem.W.kitx_str I.kIn True.intro e (fun z => nomatch z) h
  | flt y => obtain ⟨t, q⟩ := (show ∃ t, u = Value.float y t from rx); cases q; exact PySem.W.kia_one PySem.W.kitx_float I.kIn True.intro e (fun z => nomatch z) h
  | @lst a xs ea =>
    cases (show u = Value.ref a from rx)
    obtain ⟨_, _, n, _, h1⟩ := (show ObjOk X.prog X.w H s.heap a (.lst xs) from I.hok a _ ea)
    exact PySem.W.kia_one PySem.W.kitx_list I.kIn ⟨_, h1, rfl⟩ e (fun z => nomatch z) h
  | @frz a ob xs ea =>
    cases (show u = Value.ref a from rx)
    obtain ⟨_, _, _, n, _, h1⟩ := (show ObjOk X.prog X.w H s.heap a (.frz ob (.lst xs)) from I.hok a _ ea)
    exact PySem.W.kia_one PySem.W.kitx_list I.kIn ⟨_, h1, rfl⟩ e (fun z => nomatch z) h
  | @tup a xs ea =>
    cases (show u = Value.ref a from rx)
    obtain ⟨_, _, _, p⟩ := (show ObjOk X.prog X.w H s.heap a (.tup xs) from I.hok a _ ea)
    obtain ⟨o, h1, h2, _⟩ := p
    exact PySem.W.kia_one PySem.W.kitx_tuple I.kIn ⟨o, h1, h2⟩ e (fun z => nomatch z) h
  | @dK a kvs ea =>
    cases (show u = Value.ref a from rx)
    obtain ⟨_, _, vs, _, p⟩ := (show ObjOk X.prog X.w H s.heap a (.dK kvs) from I.hok a _ ea)
    obtain ⟨o, es, ep, h1, h2, _⟩ := p
    exact PySem.W.kia_one PySem.W.kitx_dict I.kIn ⟨o, h1, h2.1⟩ e (fun z => nomatch z) h
  | @dT a kvs ea =>
    cases (show u = Value.ref a from rx)
    obtain ⟨_, _, xs, _, o, es, ep, h1, h2, _⟩ := (show ObjOk X.prog X.w H s.heap a (.dT kvs) from I.hok a _ ea)
    exact PySem.W.kia_one PySem.W.kitx_dict I.kIn ⟨o, h1, h2.1⟩ e (fun z => nomatch z) h
  | @ins a C dx fs ea cl ha hn htk hm =>
    cases (show u = Value.ref a from rx)
    obtain ⟨mA, O, _⟩ := ins_get I.hok ea
    obtain ⟨od, J, _⟩ := O.look
    exact PySem.W.kia_one (PySem.W.kitx_own (cl.get _) cl.hd ha hn htk hm) I.kIn J e (fun z => nomatch z) h
end
end L2

namespace L2
open PySem PySem.Spec PyProof.Rows

structure Room (k : Nat) (A : Around) : Prop where
  hd : A.handled = none
  dp : A.depth + 3 * k + 5 < recursionLimit
  un : A.units + 16 * k + 200 < cLine
theorem Room.deeper {k : Nat} {A : Around} (r : Room (k + 1) A) (env : Env) : Room k (A.deeper env) :=
  ⟨r.hd, by have := r.dp; show A.depth + 1 + 3 * k + 5 < _; omega, by have := r.un; show A.units + 3 + 16 * k + 200 < _; omega⟩
theorem Room.in1 {k : Nat} {A : Around} (r : Room (k + 1) A) : Room k A.in1 :=
  ⟨r.hd, by have := r.dp; show A.depth + 3 * k + 5 < _; omega, by have := r.un; show A.units + 1 + 16 * k + 200 < _; omega⟩
theorem Room.depth {k : Nat} {A : Around} (r : Room k A) : A.depth < recursionLimit := by have := r.dp; omega
theorem Room.units {k : Nat} {A : Around} (r : Room k A) : A.units + 64 < cLine := by have := r.un; omega
def tNil : TA := fun _ H Q => Q [] H
def tCons (ta : TE) (tr : TA) : TA := fun σ H Q => ta σ H fun x H1 => tr σ H1 fun xs H2 => Q (x :: xs) H2
section
variable {X : Cx} {e : Expr} {es : List Expr} {te : TE} {t : TA} {pos : Pos}
theorem pa_nil : PA X [] tNil := fun _ _ _ _ H Q I h => Calls.spliced_nil ⟨[], H, I, .nil, h⟩
theorem pa_cons (ha : PE X e te) (hr : PA X es t) (hs : starEach (e :: es) X.env = (false, eval e X.env) :: starEach es X.env := by rfl) : PA X (e :: es) (tCons te t) := by
  intro pos pins s σ H Q I h
  rw [hs]
  show wpAny _ _ (spliced ((false, eval e X.env) :: backTo pos (starEach es X.env))) _ _ s
  refine Calls.spliced_cons (thn (ha pins s σ H _ I h) fun u s1 ⟨x, H1, I1, r1, q1⟩ => ?_)
  exact thn (hr pos pins s1 σ H1 _ I1 q1) fun us s2 ⟨xs, H2, I2, r2, q2⟩ => ⟨x :: xs, H2, I2, .cons r1 r2, q2⟩

def tTup (t : TA) : TE := fun σ H Q => t σ H fun xs H1 => xs.length ≤ sizeLine ∧ ∀ p, H1 p = none → Q (.ref p) (upd H1 p (.tup xs))
def tLst (t : TA) : TE := fun σ H Q => t σ H fun xs H1 => xs.length ≤ sizeLine ∧ ∀ p, H1 p = none → Q (.ref p) (upd H1 p (.lst xs))
theorem pe_tup {x1} (h : PA X es t) : PE X (.Tuple es x1 pos) (tTup t) := by
  intro pins s σ H Q I hq
  refine wpAny_Tuple_spliced (thn (h pos pins s σ H _ I hq) fun us s1 ⟨xs, H1, I1, r, z, q⟩ => ⟨by rw [← r.length]; exact z, ?_⟩)
  have hf : H1 s1.heap.objs.size = none := I1.hok.fresh (Nat.le_refl _)
  refine ⟨.ref s1.heap.objs.size, upd H1 s1.heap.objs.size (.tup xs), I1.laid (t' := s1.toks) (fun b u e => Heap.get?_push_of_some _ e) (Nat.le_refl _) ?_, rfl, q _ hf⟩
  exact ⟨⟨z, _, Heap.get?_push_size _ rfl, rfl⟩, us, r, ⟨_, Heap.get?_push_size _ rfl, rfl, _, rfl⟩⟩
theorem pe_lst (h : PA X es t) : PE X (.List es pos) (tLst t) := by
  intro pins s σ H Q I hq
  refine wpAny_List_spliced (thn (h pos pins s σ H _ I hq) fun us s1 ⟨xs, H1, I1, r, z, q⟩ => ⟨by rw [← r.length]; exact z, ?_⟩)
  have hf : H1 s1.heap.objs.size = none := I1.hok.fresh (Nat.le_refl _)
  refine ⟨.ref s1.heap.objs.size, upd H1 s1.heap.objs.size (.lst xs), I1.laid (t' := s1.toks) (fun b u e => Heap.get?_push_of_some _ e) (Nat.le_refl _) ?_, rfl, q _ hf⟩
  exact ⟨z, us, 0, r, Heap.get?_push_size _ rfl⟩
end

abbrev Sp := List V → Hp → VK → XK → Prop
abbrev CXT := List Env → Hp → Shared → XK → Value → Shared → Prop

structure Env0 (P : Program) (w : World) (K : PySem.W.Frag) (mg : Str → Option Value) (base : Heap) (A : Around) (outer : List Env) (s : Shared) (H : Hp) : Prop where
  frames : A.frames = some outer
  mod : Mod K mg base
  bs : ∀ b o, base.get? b = some o → s.heap.get? b = some o ∧ H b = none
  bsz : base.objs.size ≤ s.heap.objs.size
  funs : s.heap.FunFrames base outer
  frf : ∀ b ∈ frs outer, H b = none
  hok : HOk P w H s.heap
  bare : AllBare s.gens
def CE (outer : List Env) (P : Program) (w : World) (H : Hp) (s : Shared) (Q : VK) (u : Value) (s' : Shared) : Prop :=
  ∃ v H', s'.os = s.os ∧ AllBare s'.gens ∧ Un (frs outer) [] H H' s.heap s'.heap ∧ HOk P w H' s'.heap ∧ RelV v u ∧ Q v H'
def CR (CX : CXT) (outer : List Env) (P : Program) (w : World) (H : Hp) (s : Shared) (Q : VK) (E : XK) (r : Result) (s' : Shared) : Prop :=
  match r with
  | .ok (.ret u) => CE outer P w H s Q u s'
  | .ok _ => False
  | .error e => CX outer H s E e s'
structure FnOk (P : Program) (w : World) (K : PySem.W.Frag) (mg : Str → Option Value) (base : Heap) (CX : CXT) (k : Nat) (f : Addr) (fd : FuncData) (ps : List Str) (sp : Sp) : Prop where
  len : ∀ vs H Q E, sp vs H Q E → vs.length = ps.length
  run : ∀ (A : Around) (outer : List Env) (s : Shared) (H : Hp) (args : Args) (us : List Value) (vs : List V) (Q : VK) (E : XK), Room k A → Env0 P w K mg base A outer s H → BindsTo s fd args (ps.zip us) → Vals vs us → sp vs H Q E →
    codeAny (model P w) A (.call (.ref f) args) (CR CX outer P w H s Q E) s
theorem FnOk.imp {P : Program} {w : World} {K : PySem.W.Frag} {mg : Str → Option Value} {base : Heap} {CX : CXT} {k : Nat} {f : Addr} {fd : FuncData} {ps : List Str} {sp sp' : Sp} (F : FnOk P w K mg base CX k f fd ps sp)
    (h : ∀ vs H Q E, sp' vs H Q E → sp vs H Q E) : FnOk P w K mg base CX k f fd ps sp' :=
  ⟨fun vs H Q E q => F.len vs H Q E (h _ _ _ _ q), fun A outer s H args us vs Q E hr he hb hv hs => F.run A outer s H args us vs Q E hr he hb hv (h _ _ _ _ hs)⟩

theorem Env0.in1 {P : Program} {w : World} {K : PySem.W.Frag} {mg : Str → Option Value} {base : Heap} {A : Around} {outer : List Env} {s : Shared} {H : Hp} (e : Env0 P w K mg base A outer s H) :
    Env0 P w K mg base A.in1 outer s H := ⟨e.frames, e.mod, e.bs, e.bsz, e.funs, e.frf, e.hok, e.bare⟩

section
variable {X : Cx} {pins : List (Addr × Obj)} {σ : St} {H : Hp} {s s' : Shared}
theorem Inv.env0 (I : Inv X pins σ H s) : Env0 X.prog X.w X.K X.mg X.base X.A X.stack s H :=
  ⟨I.ok.frames, I.ok.mod, I.bs, Nat.le_trans I.ok.bsz I.sz, I.stack, I.stkFree, I.hok, I.bare⟩
theorem Inv.after {Q : VK} {u : Value} (I : Inv X pins σ H s) (h : CE X.stack X.prog X.w H s Q u s') : EP X pins σ Q u s' := by
  obtain ⟨v, H', os, bare, un, hok, r, q⟩ := h
  obtain ⟨hh, g, d, t, os'⟩ := s'
  obtain rfl : os' = s.os := os
  exact ⟨v, H', I.call (h' := hh) (g' := g) (d' := d) (t' := t) (ch := []) un hok bare (fun b z => absurd z (by simp)), r, q⟩
end

def tCall (sp : Sp) (dvs : List V) (E : XK) (t : TA) : TE := fun σ H Q => t σ H fun vs H1 => sp (vs ++ dvs) H1 Q E
def Binds (K : PySem.W.Frag) (fd : FuncData) (ps : List Str) (ds : List Value) : Prop :=
  ∀ (s : Shared) (us : List Value), K.In s.heap → (us ++ ds).length = ps.length → BindsTo s fd ⟨us, []⟩ (ps.zip (us ++ ds))
theorem Binds.all {K : PySem.W.Frag} {fd : FuncData} {ps : List Str} (h : ∀ us : List Value, us.length = ps.length → bindArgs fd ⟨us, []⟩ = pure (ps.zip us)) : Binds K fd ps [] := fun s us _ hl => by
  rw [List.append_nil] at hl ⊢
  exact .of_eq (h us hl)

def Passes (CX : CXT) (X : Cx) (E : XK) : Prop := ∀ (pins : List (Addr × Obj)) (σ : St) (H : Hp) (s : Shared) (e : Value) (s' : Shared), Inv X pins σ H s → CX X.stack H s E e s' → X.xe e s'

section
variable {X : Cx} {CX : CXT} {k : Nat} {f C : Addr} {fd : FuncData} {ps : List Str} {sp : Sp} {dvs : List V} {ds : List Value} {E : XK} {x m : Str} {p pos apos : Pos} {e o : Expr} {es : List Expr} {ta : TE} {t : TA}

theorem run_fn {pins : List (Addr × Obj)} {σ : St} {H : Hp} {s : Shared} {Q : VK} {us : List Value} {vs : List V} (F : FnOk X.prog X.w X.K X.mg X.base CX k f fd ps sp) (hr : Room k X.A) (hb : Binds X.K fd ps ds) (hd : Vals dvs ds) (hx : Passes CX X E)
    (I : Inv X pins σ H s) (r : Vals vs us) (h : sp (vs ++ dvs) H Q E) : wpAny (model X.prog X.w) X.A (call (.ref f) us) (EP X pins σ Q) X.xe s := by
  have r2 : Vals (vs ++ dvs) (us ++ ds) := r.append hd
  have hl : (us ++ ds).length = ps.length := by rw [← r2.length]; exact F.len _ _ _ _ h
  refine wpAny_call (codeAny_mono (F.run X.A X.stack s H ⟨us, []⟩ (us ++ ds) (vs ++ dvs) Q E hr I.env0 (hb s us I.kIn hl) r2 h) fun r s' hq => ?_)
  cases r with
  | error e => exact hx pins σ H s e s' I hq
  | ok fl =>
    cases fl with
    | ret u => exact I.after hq
    | next => exact False.elim hq
    | brk => exact False.elim hq
    | cont => exact False.elim hq

theorem pe_call (F : FnOk X.prog X.w X.K X.mg X.base CX k f fd ps sp) (hr : Room k X.A) (hg : Gl X x) (hm : X.mg x = some (.ref f)) (hk : PySem.W.keepIn X.K (.ref f) = true) (hb : Binds X.K fd ps ds) (hd : Vals dvs ds) (hx : Passes CX X E)
    (ha : PA X (e :: es) t) (hdb : (x == ("__debug__" : Str)) = false := by decide) (he : starEach (e :: es) X.env = (false, eval e X.env) :: starEach es X.env := by rfl) (hpl : (backTo pos (starEach es X.env)).any (·.1) = false := by rfl) :
    PE X (.Call (.Name x p) (e :: es) [] pos) (tCall sp dvs E t) := by
  intro pins s σ H Q I h
  refine wpAny_Call_Name_kw (ld_glob I hg hm ?_ hdb)
  refine PySem.W.callWith_K (h₀ := X.base) I.ok.mod.kin hk (thn (ha pos pins s σ H _ I h) fun us s1 ⟨vs, H1, I1, r, q⟩ => ⟨I1.kIn, ?_⟩) he hpl
  exact run_fn F hr hb hd hx I1 r q
end

section
variable {X : Cx} {CX : CXT} {k : Nat} {f C : Addr} {fd : FuncData} {ps ks : List Str} {sp : Sp} {E : XK} {x m : Str} {p pos apos kpos : Pos} {e o : Expr} {es : List Expr} {kws : List Keyword} {te ta : TE} {t tk : TA} {nm : Option Str}
variable {g : List Value → List Value → List Value} {gV : List V → List V → List V}
end

structure FnScope (N P : List Str) (sc : Scope) : Prop where
  kind : sc.kind = .function
  co : sc.isCoroutine = false
  gen : sc.isGenerator = false
  nd : N.Nodup
  pre : N.take P.length = P
  par : ∀ x ∈ P, sc.names.lookup x = some .local ∨ sc.names.lookup x = some .cell
  nofree : ∀ y ∈ sc.names, y.2 ≠ .free

theorem bindL_out {kindOf : Str → Option NameKind} {x : Str} : ∀ {binds : List (Str × Value)} {m : Str → Option Value}, (∀ v, (x, v) ∉ binds) → bindL kindOf binds m x = m x
  | [], _, _ => rfl
  | (n, v) :: r, m, h => by
    unfold bindL
    rw [bindL_out fun w hw => h w (List.mem_cons_of_mem _ hw)]
    split
    · have : x ≠ n := by rintro rfl; exact h v List.mem_cons_self
      simp [this]
    · rfl
theorem bindC_out {kindOf : Str → Option NameKind} {x : Str} : ∀ {binds : List (Str × Value)} {m : Str → Option Value}, (∀ v, (x, v) ∉ binds) → bindC kindOf binds m x = m x
  | [], _, _ => rfl
  | (n, v) :: r, m, h => by
    unfold bindC
    rw [bindC_out fun w hw => h w (List.mem_cons_of_mem _ hw)]
    split
    · rfl
    · have : x ≠ n := by rintro rfl; exact h v List.mem_cons_self
      simp [this]
theorem bindL_get {kindOf : Str → Option NameKind} {x : Str} {v : Value} : ∀ {P : List Str} {vs : List Value} {i : Nat} {m : Str → Option Value}, P.Nodup → P[i]? = some x → vs[i]? = some v → kindOf x = some .local →
    bindL kindOf (P.zip vs) m x = some v
  | [], _, _, _, _, h, _, _ => by simp at h
  | _ :: _, [], _, _, _, _, h, _ => by simp at h
  | p :: P, w :: vs, 0, m, nd, h1, h2, hk => by
    simp at h1 h2; subst h1; subst h2
    show bindL kindOf ((p, w) :: P.zip vs) m p = _
    unfold bindL
    rw [bindL_out fun v hv => (List.nodup_cons.mp nd).1 (List.of_mem_zip hv).1, if_pos hk]
    simp
  | p :: P, w :: vs, i + 1, m, nd, h1, h2, hk => by
    show bindL kindOf ((p, w) :: P.zip vs) m x = _
    unfold bindL
    exact bindL_get (i := i) (List.nodup_cons.mp nd).2 (by simpa using h1) (by simpa using h2) hk
theorem bindC_get {kindOf : Str → Option NameKind} {x : Str} {v : Value} : ∀ {P : List Str} {vs : List Value} {i : Nat} {m : Str → Option Value}, P.Nodup → P[i]? = some x → vs[i]? = some v → kindOf x ≠ some .local →
    bindC kindOf (P.zip vs) m x = some v
  | [], _, _, _, _, h, _, _ => by simp at h
  | _ :: _, [], _, _, _, _, h, _ => by simp at h
  | p :: P, w :: vs, 0, m, nd, h1, h2, hk => by
    simp at h1 h2; subst h1; subst h2
    show bindC kindOf ((p, w) :: P.zip vs) m p = _
    unfold bindC
    rw [bindC_out fun v hv => (List.nodup_cons.mp nd).1 (List.of_mem_zip hv).1, if_neg hk]
    simp
  | p :: P, w :: vs, i + 1, m, nd, h1, h2, hk => by
    show bindC kindOf ((p, w) :: P.zip vs) m x = _
    unfold bindC
    exact bindC_get (i := i) (List.nodup_cons.mp nd).2 (by simpa using h1) (by simpa using h2) hk

def start (N : List Str) (vs : List V) : St := vs.map some ++ List.replicate (N.length - vs.length) none

def cxOf (CX : CXT) (P : Program) (w : World) (K : PySem.W.Frag) (mg : Str → Option Value) (base : Heap) (N : List Str) (qual : Str) (scope : Scope) (f : Addr) (cd : Value) (A : Around) (outer : List Env) (s : Shared) (H : Hp) (E : XK) : Cx where
  prog := P
  w := w
  K := K
  mg := mg
  base := base
  A := A.deeper (envOfC qual scope s.heap.objs.size f cd)
  N := N
  s₀ := s
  H₀ := H
  env := envOfC qual scope s.heap.objs.size f cd
  outer := outer
  stack := envOfC qual scope s.heap.objs.size f cd :: outer
  ex := []
  calm := true
  fn := fun _ => true
  pn := []
  xe := fun e s' => wpAny (model P w) (A.deeper (envOfC qual scope s.heap.objs.size f cd)) (leaving (envOfC qual scope s.heap.objs.size f cd) e) (fun _ s'' => CX outer H s E e s'') (fun e' s'' => CX outer H s E e' s'') s'

theorem cell_has {sc : Scope} {n : Nat} {x : Str} (h : sc.names.lookup x = some .cell) : ∃ c, (cellsFrom n sc.names []).lookup x = some c := by
  have q := PySem.W.cellsFrom_some sc.names n [] (.inl h)
  exact Option.isSome_iff_exists.mp q

theorem inv_start {CX : CXT} {P : Program} {w : World} {K : PySem.W.Frag} {mg : Str → Option Value} {base : Heap} {N ps : List Str} {qual : Str} {scope : Scope} {f : Addr} {cd : Value} {A : Around} {outer : List Env} {s s1 : Shared} {H : Hp} {E : XK} {us : List Value} {vs : List V}
    (S : FnScope N ps scope) (hd : A.handled = none) (e0 : Env0 P w K mg base A outer s H) (hl : vs.length = ps.length) (r : Vals vs us)
    (x : InCallC s s.heap.objs.size (bindL (envOfC qual scope s.heap.objs.size f cd).kindOf (ps.zip us) fun _ => none) (cellsFrom (s.heap.objs.size + 1) scope.names []) (bindC (envOfC qual scope s.heap.objs.size f cd).kindOf (ps.zip us) fun _ => none) s1) :
    Inv (cxOf CX P w K mg base N qual scope f cd A outer s H E) [] (start N vs) H s1 := by
  have hpl : ps.length ≤ N.length := by have := congrArg List.length S.pre; rw [List.length_take] at this; omega
  obtain ⟨h1, tk, rfl, hk⟩ := x.done
  have noA : ∀ b : Addr, b ∉ (cxOf CX P w K mg base N qual scope f cd A outer s H E).ex := fun b z => absurd (show b ∈ ([] : List Addr) from z) (by simp)
  refine ⟨⟨e0.mod, S.kind, rfl, rfl, Nat.le_refl _, fun y z c h1 h2 => ?_, fun y hy => ?_, fun y c _ h => ?_, fun _ => hd, Around.frames_deeper e0.frames, .inr ⟨rfl, rfl⟩, fun b z => absurd z (noA b), e0.bs, e0.bsz, fun b _ _ => noA b, fun b z => absurd z (noA b), e0.funs, e0.frf⟩,
    rfl, e0.bare, Un.kept hk, ⟨_, x.toInCall.ns, fun i y v h1 h2 h3 => ?_⟩, fun y c h => ⟨_, x.cell y c h⟩, e0.hok.fresh (Nat.le_refl _), fun y c h => ?_, fun p hp => absurd (show p ∈ ([] : List (Addr × Obj)) from hp) (by simp), e0.hok.kept hk, ?_⟩
  · exact name_of_addr x.apart (PySem.mem_of_lookup h1) (PySem.mem_of_lookup h2)
  · have hy : scope.names.lookup y = some .cell ∨ scope.names.lookup y = some .free := hy
    rcases hy with hy | hy
    · exact cell_has hy
    · exact absurd rfl (S.nofree _ (PySem.mem_of_lookup hy))
  · exact Nat.le_of_lt (x.above y c (PySem.mem_of_lookup h))
  · have hi : i < vs.length := by
      unfold start at h2
      by_cases hi : i < vs.length
      · exact hi
      · rw [List.getElem?_append_right (by simpa using hi)] at h2
        rw [List.getElem?_replicate] at h2
        split at h2 <;> cases h2
    have ha : vs[i]? = some v := by
      unfold start at h2
      rw [List.getElem?_append_left (by simpa using hi), List.getElem?_map] at h2
      cases e : vs[i]? with
      | none => rw [e] at h2; cases h2
      | some a => rw [e] at h2; cases h2; rfl
    obtain ⟨u, hu, rv⟩ := r.get ha
    have hp : ps[i]? = some y := by
      rw [← S.pre, List.getElem?_take_of_lt (by omega)]; exact h1
    have ndP : ps.Nodup := by rw [← S.pre]; exact S.nd.sublist (List.take_sublist _ _)
    refine ⟨u, rv, ?_⟩
    rcases S.par y (List.mem_of_getElem? hp) with k | k
    · exact .inl ⟨k, bindL_get ndP hp hu k⟩
    · obtain ⟨c, e⟩ := cell_has (n := s.heap.objs.size + 1) k
      refine .inr ⟨.inl k, c, e, ?_⟩
      have q := x.cell y c e
      rw [bindC_get ndP hp hu (by show scope.names.lookup y ≠ _; rw [k]; decide)] at q
      exact q
  · exact e0.hok.fresh (Nat.le_of_lt (x.above y c (PySem.mem_of_lookup h)))
  · unfold start
    show _ = N.length
    rw [List.length_append, List.length_map, List.length_replicate]
    omega

theorem fn_of {CX : CXT} {P : Program} {w : World} {K : PySem.W.Frag} {mg : Str → Option Value} {base : Heap} {k : Nat} {f : Addr} {name qual : Str} {params : Arguments} {body : List Stmt} {scope : Scope} {dV kV doc pm cdv ct oc : Value} {an od : Option Addr}
    {osl : Array (Option Value)} {N ps : List Str} {sp : Sp} (lk : K.lookup f = some ⟨oc, od, .func (PySem.W.fnOf name qual params body scope dV kV doc pm an cdv ct), osl⟩) (hcd : PySem.W.codeIn K cdv qual = true) (S : FnScope N ps scope)
    (len : ∀ vs H Q E, sp vs H Q E → vs.length = ps.length)
    (hbody : ∀ (A : Around) (outer : List Env) (s : Shared) (H : Hp) (vs : List V) (Q : VK) (E : XK), Room k (A.deeper (envOfC qual scope s.heap.objs.size f cdv)) → sp vs H Q E →
      ∃ t, PSs (cxOf CX P w K mg base N qual scope f cdv A outer s H E) body t ∧ t { nx := fun _ H' => Q .non H', rt := Q } (start N vs) H) :
    FnOk P w K mg base CX (k + 1) f (PySem.W.fnOf name qual params body scope dV kV doc pm an cdv ct) ps sp := by
  refine ⟨len, fun A outer s H args us vs Q E hr e0 hb r hsp => ?_⟩
  have hl := len _ _ _ _ hsp
  have KX : K.In s.heap := e0.mod.kin.keeps fun b o e => (e0.bs b o e).1
  have lim : s.heap.NoLimit := e0.mod.nolimit.keeps fun b o e => (e0.bs b o e).1
  have hkind : ∀ y ∈ ps.zip us, scope.names.lookup y.1 = some .local ∨ (scope.names.lookup y.1 = some .cell ∧ ((cellsFrom (s.heap.objs.size + 1) scope.names []).lookup y.1).isSome = true) := fun ⟨n, v⟩ hy => by
    rcases S.par n (List.of_mem_zip hy).1 with q | q
    · exact .inl q
    · exact .inr ⟨q, PySem.W.cellsFrom_some _ _ _ (.inl q)⟩
  refine codeAny_call_function hr.depth (KX _ _ lk) rfl S.co S.gen rfl (PySem.W.codeRec_of KX hcd) (hb _ _ _ _ ?_)
  refine wpAny_newFunctionEnv_cells S.kind hkind fun env he s1 x => ?_
  subst he
  refine ⟨lim.keeps x.toInCall.keep, codeAny_func ?_⟩
  obtain ⟨t, ht, hq⟩ := hbody A outer s H vs Q E (hr.deeper _) hsp
  have I : Inv (cxOf CX P w K mg base N qual scope f cdv A outer s H E) [] (start N vs) H s1 := inv_start S hr.hd e0 hl r x
  refine wpAny_mono (ht [] s1 (start N vs) H _ I hq) (fun fl s' hs => ?_) fun e s' hs => hs
  have fin : ∀ {σ' : St} {H' : Hp} {v : V} {u : Value}, Inv (cxOf CX P w K mg base N qual scope f cdv A outer s H E) [] σ' H' s' → RelV v u → Q v H' → CE outer P w H s Q u s' :=
    fun {σ' H' v u} J rv q => ⟨v, H', J.os, J.bare, J.base, J.hok, rv, q⟩
  cases fl with
  | ret u =>
    obtain ⟨v, σ', H', J, rv, q⟩ := hs
    exact fin J rv q
  | next =>
    obtain ⟨σ', H', J, q⟩ := hs
    exact fin (v := V.non) (u := Value.none) J rfl q
  | brk =>
    obtain ⟨_, _, _, q⟩ := hs
    exact False.elim q
  | cont =>
    obtain ⟨_, _, _, q⟩ := hs
    exact False.elim q
end L2

namespace L2
open PySem PySem.Spec PyProof.Rows
section
variable {X : Cx} {x : Str} {p pos : Pos} {e : Expr} {es : List Expr} {t : TA} {id T : String} {r : List V → Hp → VK → Prop}

def tCB (r : List V → Hp → VK → Prop) (t : TA) : TE := fun σ H Q => t σ H fun vs H1 => r vs H1 Q
theorem pe_callB (hc : CallR X (.builtin id) r) (hg : Gl X x) (hm : X.mg x = none) (hv : bootBuiltins x = some (.builtin id)) (ha : PA X (e :: es) t) (hn : x ≠ "__name__" := by decide) (hdb : (x == ("__debug__" : Str)) = false := by decide)
    (he : starEach (e :: es) X.env = (false, eval e X.env) :: starEach es X.env := by rfl) (hpl : (backTo pos (starEach es X.env)).any (·.1) = false := by rfl) : PE X (.Call (.Name x p) (e :: es) [] pos) (tCB r t) := by
  intro pins s σ H Q I h
  refine wpAny_Call_Name_kw (ld_blt I hg hm hv ?_ hn hdb)
  exact PyProof.Rows.callWith_builtin1 (thn (ha pos pins s σ H _ I h) fun us s1 ⟨vs, H1, I1, r1, q1⟩ => hc pins s1 σ H1 vs us Q I1 r1 q1) he hpl
theorem pe_callTy (hc : CallR X (.type T) r) (hg : Gl X x) (hm : X.mg x = none) (hv : bootBuiltins x = some (.type T)) (ha : PA X (e :: es) t) (hn : x ≠ "__name__" := by decide) (hdb : (x == ("__debug__" : Str)) = false := by decide)
    (he : starEach (e :: es) X.env = (false, eval e X.env) :: starEach es X.env := by rfl) (hpl : (backTo pos (starEach es X.env)).any (·.1) = false := by rfl) : PE X (.Call (.Name x p) (e :: es) [] pos) (tCB r t) := by
  intro pins s σ H Q I h
  refine wpAny_Call_Name_kw (ld_blt I hg hm hv ?_ hn hdb)
  exact PyProof.Rows.callWith_type1 (thn (ha pos pins s σ H _ I h) fun us s1 ⟨vs, H1, I1, r1, q1⟩ => hc pins s1 σ H1 vs us Q I1 r1 q1) he hpl
end
end L2

namespace HT
open PySem PyProof.Rows

section
open PySem.SeqAt
open PySem.AutoSeq1 (wpAny_loadPart')
open PySem.MeetsSeq PySem.MeetsSeq2 PySem.MeetsSeq3

end

section
variable {prog : Program} {w : World} {A : Around} {E : Value → Shared → Prop} {s : Shared}

theorem cat_tup {t b : Addr} {vs ws : List Value} {Q : Value → Shared → Prop} (ht : IsTup s.heap t vs.toArray) (hb : IsTup s.heap b ws.toArray) (hv : vs ≠ [])
    (h1 : ws = [] → Q (.ref t) s) (h2 : ws ≠ [] → Q (.ref s.heap.objs.size) { s with heap := s.heap.push { cls := .type "tuple", data := .seq (vs ++ ws).toArray } })
    (hsz : vs.length + ws.length ≤ sizeLine) : wpAny (model prog w) A (binaryOp .Add (.ref t) (.ref b)) Q E s := by
  obtain ⟨⟨cls, dd, data, sl⟩, ho, hc, n, hd⟩ := id ht
  obtain ⟨⟨cls2, dd2, data2, sl2⟩, ho2, hc2, n2, hd2⟩ := id hb
  simp only at hc hd hc2 hd2
  subst hc hd hc2 hd2
  have e : vs.toArray ++ ws.toArray = (vs ++ ws).toArray := by simp
  by_cases hw : ws = []
  · exact concat_meets ⟨_, ho, rfl⟩ ⟨_, ho2, rfl⟩ noFill_tuple_add seq_tuple_add PySem.F.slot_tuple_add PySem.F.entry_tuple_add (PySem.F.args_tuple_add_2 _ _)
      (tuple_addW1 t b vs.toArray ws.toArray n n2 dd dd2 sl sl2 (by simpa using hv) (by simp [hw])) ⟨ho, ho2, h1 hw⟩
  · refine concat_meets ⟨_, ho, rfl⟩ ⟨_, ho2, rfl⟩ noFill_tuple_add seq_tuple_add PySem.F.slot_tuple_add PySem.F.entry_tuple_add (PySem.F.args_tuple_add_2 _ _)
      (tuple_addW2 t b vs.toArray ws.toArray n n2 dd dd2 sl sl2 (by simpa using hv) (by simpa using hw) (by rw [List.size_toArray, List.size_toArray]; exact hsz)) ⟨ho, ho2, ?_⟩
    rw [e]
    exact h2 hw

def sIx (n d : Nat) : Option Int → Nat
  | none => d
  | some v => if v < 0 then (v + (n : Int)).toNat else min v.toNat n
theorem sIx_none (n d : Nat) : sIx n d none = d := rfl
theorem sIx_nat (n d k : Nat) : sIx n d (some (k : Int)) = min k n := by
  show (if (k : Int) < 0 then ((k : Int) + (n : Int)).toNat else min (k : Int).toNat n) = min k n
  rw [if_neg (by omega), Int.toNat_natCast]
theorem sIx_le (n d : Nat) (hd : d ≤ n) (o : Option Int) : sIx n d o ≤ n := by
  cases o with
  | none => exact hd
  | some v =>
    show (if v < 0 then (v + (n : Int)).toNat else min v.toNat n) ≤ n
    by_cases hv : v < 0
    · rw [if_pos hv]; omega
    · rw [if_neg hv]; exact Nat.min_le_right _ _
theorem clip_eq (v : Int) (n d : Nat) : (if v < 0 then max (v + (n : Int)) 0 else min v (n : Int)) = ((sIx n d (some v) : Nat) : Int) := by
  show (if v < 0 then max (v + (n : Int)) 0 else min v (n : Int)) = (((if v < 0 then (v + (n : Int)).toNat else min v.toNat n) : Nat) : Int)
  by_cases hv : v < 0
  · simp only [if_pos hv]; omega
  · simp only [if_neg hv]; omega
theorem adjust_gen (lo hi : Option Int) (n : Nat) : Builtin.Slice.sliceAdjust lo hi 1 (n : Int) = (((sIx n 0 lo : Nat) : Int), ((sIx n n hi : Nat) : Int)) := by
  have h1 : ¬ ((1 : Int) < 0) := by omega
  unfold Builtin.Slice.sliceAdjust
  simp only [h1, if_false]
  refine Prod.ext ?_ ?_
  · cases lo with
    | none => rfl
    | some v => exact clip_eq v n 0
  · cases hi with
    | none => rfl
    | some v => exact clip_eq v n n
theorem places_gen (i j : Nat) : Builtin.Slice.slicePlaces (i : Int) (j : Int) 1 = j - i := by
  unfold Builtin.Slice.slicePlaces
  have h1 : (1 : Int) > 0 := by omega
  simp only [h1, if_true, Int.ediv_one]
  split <;> omega
theorem slicePart_ {v : Value} {o : Option Int} {Q : Option Int → Shared → Prop} (p : IsPart v o) (h : Q o s) : wpAny (model prog w) A (Builtin.Slice.slicePartIndex v) Q E s := by
  cases p with
  | none => exact slicePart_none h
  | int i t => exact slicePart_int h
theorem sliceApplied_gen {sl : Addr} {vl vu : Value} {lo hi : Option Int} {n : Nat} {Q : Int × Int × Nat → Shared → Prop} (hs : s.heap.IsSliceOf sl vl vu .none) (pl : IsPart vl lo) (pu : IsPart vu hi)
    (h : Q (((sIx n 0 lo : Nat) : Int), 1, sIx n n hi - sIx n 0 lo) s) : wpAny (model prog w) A (Builtin.Slice.sliceApplied (.ref sl) (pure (n : Int))) Q E s := by
  obtain ⟨os, hos, hcs, hds⟩ := id hs
  unfold Builtin.Slice.sliceApplied Builtin.Slice.sliceFields
  refine wpAny_bind (wpAny_bind (wpAny_field hos hds (x := vl) rfl (wpAny_bind (wpAny_field hos hds (x := vu) rfl (wpAny_bind (wpAny_field hos hds (x := .none) rfl (wpAny_pure ?_)))))))
  refine wpAny_bind (slicePart_none ?_)
  show wpAny _ _ (if ((1 : Int) == 0) = true then _ else _) _ _ s
  rw [if_neg (by decide)]
  refine wpAny_bind (slicePart_ pl (wpAny_bind (slicePart_ pu (wpAny_bind (wpAny_pure ?_)))))
  show wpAny _ _ (match Builtin.Slice.sliceAdjust lo hi 1 (n : Int) with | (lo, hi) => pure (lo, (1 : Int), Builtin.Slice.slicePlaces lo hi 1)) _ _ s
  rw [adjust_gen lo hi n]
  show wpAny _ _ (pure (((sIx n 0 lo : Nat) : Int), (1 : Int), Builtin.Slice.slicePlaces ((sIx n 0 lo : Nat) : Int) ((sIx n n hi : Nat) : Int) 1)) _ _ s
  rw [places_gen]
  exact wpAny_pure h
theorem pick_gen (xs : Array Value) (i k : Nat) : ((List.range k).filterMap fun (m : Nat) => xs[((i : Int) + (m : Int) * 1).toNat]?).toArray = ((xs.toList.drop i).take k).toArray := by
  have e : (fun (m : Nat) => xs[((i : Int) + (m : Int) * 1).toNat]?) = fun m => xs[i + m]? := by
    funext m
    have : ((i : Int) + (m : Int) * 1).toNat = i + m := by omega
    rw [this]
  rw [e]
  have := pick_run xs i k
  rw [List.filterMap_map] at this
  have e2 : ((fun x => xs[x]?) ∘ fun x => i + x) = fun m => xs[i + m]? := rfl
  rw [e2] at this
  rw [this]

theorem getItem_tuple_cut {t sl : Addr} {items : Array Value} {vl vu : Value} {lo hi : Option Int} {Q : Value → Shared → Prop} (ht : IsTup s.heap t items) (hs : s.heap.IsSliceOf sl vl vu .none) (pl : IsPart vl lo) (pu : IsPart vu hi)
    (hw : ¬ (sIx items.size 0 lo = 0 ∧ sIx items.size items.size hi = items.size))
    (h : Q (.ref s.heap.objs.size) { s with heap := s.heap.push { cls := .type "tuple", data := .seq ((items.toList.drop (sIx items.size 0 lo)).take (sIx items.size items.size hi - sIx items.size 0 lo)).toArray } })
    (hsz : items.size ≤ sizeLine) : wpAny (model prog w) A (getItem (.ref t) (.ref sl)) Q E s := by
  have htake : sizeOk (.seq ((items.toList.drop (sIx items.size 0 lo)).take (sIx items.size items.size hi - sIx items.size 0 lo)).toArray) := by
    show ((items.toList.drop (sIx items.size 0 lo)).take (sIx items.size items.size hi - sIx items.size 0 lo)).toArray.size ≤ sizeLine
    rw [List.size_toArray, List.length_take, List.length_drop, Array.length_toList]
    omega
  have hj : sIx items.size items.size hi ≤ items.size := sIx_le _ _ (Nat.le_refl _) hi
  obtain ⟨os, hos, hcs, hds⟩ := id hs
  have hTs : s.TypeIs (.ref sl) "slice" := ⟨os, hos, hcs⟩
  unfold getItem
  try with_reducible refine wpAny_holding ?_
  first | refine wpAny_bind (wpAny_pure ?_) | skip
  refine wpAny_bind (wpAny_sequenceKey ht.typeIs (by decide) ?_)
  refine wpAny_bind (wpAny_callSpecial?_slot (name := Str.ofString "__getitem__") ht.typeIs PyProof.Rows.slot_tuple_getitem
    (wpAny_call_entry PyProof.Rows.slot_tuple_getitem ht.typeIs entry_tuple_getitem ?_ (args_tuple_getitem _ _)))
  show wpAny _ _ (Builtin.Tuple.tupleItemsOf (.ref t) >>= _) _ _ s
  refine wpAny_bind (tupleItemsOf_ ht ?_)
  refine wpAny_bind (wpAny_typeOf hTs ?_)
  rw [if_pos (by decide)]
  refine wpAny_bind (sliceApplied_gen hs pl pu ?_)
  have hno : ¬ ((((sIx items.size 0 lo : Nat) : Int) == 0 && (1 : Int) == 1 && (sIx items.size items.size hi - sIx items.size 0 lo) == items.size) = true) := by
    intro q
    rw [Bool.and_eq_true, Bool.and_eq_true] at q
    have q1 : ((sIx items.size 0 lo : Nat) : Int) = 0 := eq_of_beq q.1.1
    have q2 : sIx items.size items.size hi - sIx items.size 0 lo = items.size := eq_of_beq q.2
    exact hw ⟨by omega, by omega⟩
  show wpAny _ _ (if (((sIx items.size 0 lo : Nat) : Int) == 0 && (1 : Int) == 1 && (sIx items.size items.size hi - sIx items.size 0 lo) == items.size) = true then _ else _) _ _ s
  rw [if_neg hno, pick_gen]
  first
    | exact wpAny_bind (m := Builtin.Tuple.tupleExact _) (wpAny_newObj_type (wpAny_pure ⟨_, rfl, wpAny_pure h⟩) htake)
    | exact wpAny_bind (m := Builtin.Tuple.tupleExact _) (wpAny_newObj_type (wpAny_bind (wpAny_pure (wpAny_pure ⟨_, rfl, wpAny_pure h⟩))) htake)
    | exact wpAny_bind (wpAny_bind (m := Builtin.Tuple.tupleExact _) (wpAny_newObj_type (wpAny_pure (wpAny_pure ⟨_, rfl, wpAny_pure h⟩)) htake))
    | exact wpAny_bind (wpAny_bind (m := Builtin.Tuple.tupleExact _) (wpAny_newObj_type (wpAny_pure ⟨_, rfl, wpAny_pure h⟩) htake))
end
end HT

namespace L2
open PySem PySem.Spec PyProof.Rows

abbrev TO := St → Hp → (Option Int → Hp → Prop) → Prop
def PO (X : Cx) (e : Option Expr) (t : TO) : Prop :=
  ∀ (pins : List (Addr × Obj)) (s : Shared) (σ : St) (H : Hp) (Q : Option Int → Hp → Prop), Inv X pins σ H s → t σ H Q →
    wpAny (model X.prog X.w) X.A (evalPart e X.env) (fun u s' => ∃ o H', Inv X pins σ H' s' ∧ IsPart u o ∧ Q o H') X.xe s
def tNoPart : TO := fun _ H Q => Q none H
def tPart (t : TE) : TO := fun σ H Q => t σ H fun x H1 => ∃ i, x = .int i ∧ Q (some i) H1

section
variable {X : Cx} {e : Expr} {te : TE} {lo hi : Option Expr} {tl th : TO} {pos p2 : Pos}

theorem po_none : PO X none tNoPart := by
  intro pins s σ H Q I h
  rw [evalPart_none]
  exact wpAny_pure ⟨none, H, I, .none, h⟩
theorem po_some (h : PE X e te) : PO X (some e) (tPart te) := by
  intro pins s σ H Q I hw
  rw [evalPart_some]
  refine thn (h pins s σ H _ I hw) fun u s1 ⟨x, H1, I1, r1, q1⟩ => ?_
  obtain ⟨i, rfl, q⟩ := q1
  obtain ⟨t, rfl⟩ := r1
  exact ⟨some i, H1, I1, .int i t, q⟩

def SlR (X : Cx) (r : V → Option Int → Option Int → Hp → VK → Prop) : Prop :=
  ∀ (pins : List (Addr × Obj)) (s : Shared) (σ : St) (H : Hp) (x : V) (v vl vu : Value) (lo hi : Option Int) (sl : Addr) (Q : VK), Inv X pins σ H s → RelV x v → s.heap.IsSliceOf sl vl vu .none → IsPart vl lo → IsPart vu hi → r x lo hi H Q →
    ∃ T id, typeLookup (.type T) "__getitem__" = pure (some (.builtin id)) ∧ s.TypeIs v T ∧ wpAny (model X.prog X.w) X.A (getItem v (.ref sl)) (EP X pins σ Q) X.xe s
def tSl (r : V → Option Int → Option Int → Hp → VK → Prop) (te : TE) (tl th : TO) : TE := fun σ H Q => te σ H fun x H1 => tl σ H1 fun l H2 => th σ H2 fun u H3 => r x l u H3 Q
theorem pe_slice {r : V → Option Int → Option Int → Hp → VK → Prop} (hr : SlR X r) (he : PE X e te) (hl : PO X lo tl) (hu : PO X hi th) : PE X (.Subscript e (.Slice lo hi none p2) pos) (tSl r te tl th) := by
  intro pins s σ H Q I h
  refine Subscript_ (thn (he pins s σ H _ I h) fun v s1 ⟨x, H1, I1, r1, q1⟩ => ?_)
  refine wpAny_Slice (thn (hl pins s1 σ H1 _ I1 q1) fun vl s2 ⟨l, H2, I2, pl, q2⟩ => thn (hu pins s2 σ H2 _ I2 q2) fun vu s3 ⟨u, H3, I3, pu, q3⟩ => ?_)
  rw [evalPart_none]
  refine wpAny_pure ?_
  have I4 : Inv X pins σ H3 { s3 with heap := s3.heap.push { cls := .type "slice", data := .fields #[vl, vu, .none] } } := I3.kept (t' := s3.toks) fun b ob q => Heap.get?_push_of_some _ q
  obtain ⟨T, id, hT, ht, hg⟩ := hr pins { s3 with heap := s3.heap.push { cls := .type "slice", data := .fields #[vl, vu, .none] } } σ H3 x v vl vu l u s3.heap.objs.size Q I4 r1 (Heap.IsSliceOf.new ..) pl pu q3
  show wpAny (model X.prog X.w) X.A (subscriptTail e (.Slice lo hi none p2) v (.ref s3.heap.objs.size)) (EP X pins σ Q) X.xe { s3 with heap := s3.heap.push { cls := .type "slice", data := .fields #[vl, vu, .none] } }
  exact tail_any (ops := [.ref s3.heap.objs.size, v]) ht hT hg (by with_unfolding_all rfl)

def cutV (xs : List V) (lo hi : Option Int) : List V := (xs.drop (HT.sIx xs.length 0 lo)).take (HT.sIx xs.length xs.length hi - HT.sIx xs.length 0 lo)
theorem cutV_length (xs : List V) (lo hi : Option Int) : (cutV xs lo hi).length ≤ xs.length := by
  unfold cutV
  rw [List.length_take, List.length_drop]
  omega
def rSlT (K : PySem.W.Frag) : V → Option Int → Option Int → Hp → VK → Prop := fun x lo hi H Q => ∃ a xs, x = .ref a ∧ SqT K H a xs ∧
  ¬ (HT.sIx xs.length 0 lo = 0 ∧ HT.sIx xs.length xs.length hi = xs.length) ∧ ∀ p, H p = none → Q (.ref p) (upd H p (.tup (cutV xs lo hi)))
theorem sl_tup : SlR X (rSlT X.K) := by
  intro pins s σ H x v vl vu lo hi sl Q I rx hs pl pu h
  obtain ⟨a, xs, rfl, hx, hw, q⟩ := h
  cases rx
  obtain ⟨its, r, ht, hz⟩ := I.tuple hx
  have hlen : its.toArray.size = xs.length := by rw [List.size_toArray]; exact r.length.symm
  refine ⟨"tuple", _, PyProof.Rows.slot_tuple_getitem.lookup, ht.typeIs, ?_⟩
  refine HT.getItem_tuple_cut ht hs pl pu (by rw [hlen]; exact hw) ?_ (by rw [hlen]; exact hz)
  rw [hlen]
  refine ⟨.ref s.heap.objs.size, _, I.laid (t' := s.toks) (o := .tup (cutV xs lo hi)) (fun b ob q => Heap.get?_push_of_some _ q) (Nat.le_refl _) ?_, rfl, q _ (I.hok.fresh (Nat.le_refl _))⟩
  exact ⟨⟨Nat.le_trans (cutV_length xs lo hi) hz, _, Heap.get?_push_size _ rfl, rfl⟩, _, (r.drop (HT.sIx xs.length 0 lo)).take (HT.sIx xs.length xs.length hi - HT.sIx xs.length 0 lo), IsTup.new _ _⟩

def rCatT (K : PySem.W.Frag) : R2 := fun x y H Q => ∃ a b xs ys, x = .ref a ∧ y = .ref b ∧ SqT K H a xs ∧ SqT K H b ys ∧ xs ≠ [] ∧ xs.length + ys.length ≤ sizeLine ∧
  (ys = [] → Q (.ref a) H) ∧ (ys ≠ [] → ∀ p, H p = none → Q (.ref p) (upd H p (.tup (xs ++ ys))))
theorem Vals.nil_iff {xs : List V} {us : List Value} (r : Vals xs us) : us = [] ↔ xs = [] := by
  cases r with
  | nil => simp
  | cons _ _ => simp
theorem op_catT : OpR X (binaryOp .Add) (rCatT X.K) := by
  intro pins s σ H x y v u Q I rx ry h
  obtain ⟨a, b, xs, ys, rfl, rfl, ha, hb, hx, hz, q1, q2⟩ := h
  cases rx
  cases ry
  obtain ⟨its, r1, p1, _⟩ := I.tuple ha
  obtain ⟨its2, r2, p2, _⟩ := I.tuple hb
  refine HT.cat_tup p1 p2 (fun z => hx (r1.nil_iff.mp z)) (fun z => ⟨.ref a, H, I, rfl, q1 (r2.nil_iff.mp z)⟩) (fun z => ?_) (by rw [← r1.length, ← r2.length]; exact hz)
  refine ⟨.ref s.heap.objs.size, _, I.laid (t' := s.toks) (o := .tup (xs ++ ys)) (fun b ob q => Heap.get?_push_of_some _ q) (Nat.le_refl _) ?_, rfl, q2 (fun w => z (r2.nil_iff.mpr w)) _ (I.hok.fresh (Nat.le_refl _))⟩
  exact ⟨⟨by rw [List.length_append]; exact hz, _, Heap.get?_push_size _ rfl, rfl⟩, _, r1.append r2, IsTup.new _ _⟩
end
end L2

namespace L2
open PySem PySem.Spec PyProof.Rows

def ixN (n : Nat) (i : Int) : Option Nat := if 0 ≤ i then (if i < n then some i.toNat else none) else if -(n : Int) ≤ i then some (i + n).toNat else none
def atI {α : Type} (xs : List α) (i : Int) : Option α := (ixN xs.length i).bind fun j => xs[j]?
theorem ixN_seq {n : Nat} {i : Int} {j : Nat} (h : ixN n i = some j) : seqIndex? i n = some j ∧ j < n ∧ -(n : Int) ≤ i ∧ i < n := by
  unfold ixN at h
  by_cases h0 : 0 ≤ i
  · rw [if_pos h0] at h
    by_cases h1 : i < n
    · rw [if_pos h1] at h
      have e : i.toNat = j := Option.some.inj h
      exact ⟨by rw [seqIndex_of h0 h1, e], by omega, by omega, h1⟩
    · rw [if_neg h1] at h; cases h
  · rw [if_neg h0] at h
    by_cases h1 : -(n : Int) ≤ i
    · rw [if_pos h1] at h
      have e : (i + n).toNat = j := Option.some.inj h
      exact ⟨by rw [seqIndex_neg (by omega) h1, e], by omega, h1, by omega⟩
    · rw [if_neg h1] at h; cases h
theorem atI_get {α : Type} {xs : List α} {i : Int} {v : α} (h : atI xs i = some v) : ∃ j, seqIndex? i xs.length = some j ∧ xs[j]? = some v ∧ j < xs.length ∧ -(xs.length : Int) ≤ i ∧ i < xs.length := by
  unfold atI at h
  cases e : ixN xs.length i with
  | none => rw [e] at h; cases h
  | some j =>
    rw [e] at h
    obtain ⟨h1, h2, h3, h4⟩ := ixN_seq e
    exact ⟨j, h1, h, h2, h3, h4⟩
theorem atI_nat {α : Type} {xs : List α} {j : Nat} {v : α} (h : xs[j]? = some v) : atI xs (j : Int) = some v := by
  have hj : j < xs.length := (List.getElem?_eq_some_iff.mp h).1
  have e : ixN xs.length (j : Int) = some j := by
    unfold ixN
    rw [if_pos (by omega), if_pos (by omega)]; simp
  unfold atI; rw [e]; exact h
def PlainIx (b : Expr) : Prop := ∀ o i, subscripted b false o i = operate [o, i] (getItem o i)
def IxR (X : Cx) (r : R2) : Prop :=
  ∀ (value slice : Expr) (pins : List (Addr × Obj)) (s : Shared) (σ : St) (H : Hp) (x y : V) (v u : Value) (Q : VK), Inv X pins σ H s → RelV x v → RelV y u → r x y H Q →
    subscripted slice false v u = operate [v, u] (getItem v u) → wpAny (model X.prog X.w) X.A (subscriptTail value slice v u) (EP X pins σ Q) X.xe s
def MtR (X : Cx) (id : String) (r : V → List V → Hp → VK → Prop) : Prop :=
  ∀ (pins : List (Addr × Obj)) (s : Shared) (σ : St) (H : Hp) (x : V) (xs : List V) (v : Value) (us : List Value) (Q : VK), Inv X pins σ H s → RelV x v → Vals xs us → r x xs H Q →
    wpAny (model X.prog X.w) X.A (call (.builtin id) (v :: us)) (EP X pins σ Q) X.xe s
section
variable {X : Cx} {a b : Expr} {ta tb : TE} {pos : Pos}
theorem pe_ix {r : R2} (hr : IxR X r) (ha : PE X a ta) (hb : PE X b tb) (hs : PlainIx b) : PE X (.Subscript a b pos) (tOp r ta tb) := by
  intro pins s σ H Q I h
  exact Subscript_ (binT ha hb I h fun v u s2 x y H2 I2 rx ry q => hr a b pins s2 σ H2 x y v u Q I2 rx ry q (hs _ _))

def rIxL (K : PySem.W.Frag) : R2 := fun x y H Q => ∃ p xs i v, x = .ref p ∧ y = .int i ∧ SqL K H p xs ∧ atI xs i = some v ∧ Q v H
def rIxT (K : PySem.W.Frag) : R2 := fun x y H Q => ∃ p xs i v, x = .ref p ∧ y = .int i ∧ SqT K H p xs ∧ atI xs i = some v ∧ Q v H
def rIxS : R2 := fun x y H Q => ∃ z i c, x = .str z ∧ y = .int i ∧ z.length ≤ sizeLine ∧ atI z.cps.toList i = some c ∧ Q (.str ⟨#[c]⟩) H
theorem ix_list : IxR X (rIxL X.K) := by
  intro value slice pins s σ H x y v u Q I rx ry h hs
  obtain ⟨p, xs, i, z, rfl, rfl, hq, he, q⟩ := h
  cases rx
  obtain ⟨t, rfl⟩ := ry
  obtain ⟨its, r, pl, hz⟩ := I.list hq
  obtain ⟨j, h1, h2, h3, h4, h5⟩ := atI_get he
  obtain ⟨w, ew, rw'⟩ := r.get h2
  have hl := r.length
  have hn := line63
  have fin : EP X pins σ Q w s := ⟨z, H, I, rw', q⟩
  by_cases h0 : 0 ≤ i
  · have hj : i.toNat = j := by
      rw [seqIndex_of h0 h5] at h1
      exact Option.some.inj h1
    exact item_listR pl.isList h0 (by omega) (by rw [hj]; simpa using ew) fin hs
  · have hj : (i + (its.toArray.size : Int)).toNat = j := by
      rw [seqIndex_neg (by omega) h4] at h1
      rw [List.size_toArray, ← hl]
      exact Option.some.inj h1
    exact subscriptTail_builtinR (x := w) pl.isList.typeIs slot_list_getitem.lookup
      (wpAny_getItem_list_neg (Q := fun r s' => r = w ∧ EP X pins σ Q r s') pl.isList (by omega) (by rw [List.size_toArray] <;> omega) (by omega) (by rw [hj]; simpa using ew) ⟨rfl, fin⟩) hs
theorem ix_tup : IxR X (rIxT X.K) := by
  intro value slice pins s σ H x y v u Q I rx ry h hs
  obtain ⟨p, xs, i, z, rfl, rfl, hq, he, q⟩ := h
  cases rx
  obtain ⟨t, rfl⟩ := ry
  obtain ⟨its, r, pl, hz⟩ := I.tuple hq
  obtain ⟨j, h1, h2, h3, h4, h5⟩ := atI_get he
  obtain ⟨w, ew, rw'⟩ := r.get h2
  have hl := r.length
  have hn := line63
  have fin : EP X pins σ Q w s := ⟨z, H, I, rw', q⟩
  exact subscriptTail_builtinR (x := w) pl.typeIs slot_tuple_getitem.lookup
    (getItem_tuple (j := j) (Q := fun r s' => r = w ∧ EP X pins σ Q r s') pl (by omega) (by omega) (by rw [List.size_toArray, ← hl]; exact h1) (by simpa using ew) ⟨rfl, fin⟩) hs
theorem ix_str : IxR X rIxS := by
  intro value slice pins s σ H x y v u Q I rx ry h hs
  obtain ⟨z, i, c, rfl, rfl, hz, he, q⟩ := h
  obtain ⟨t, rfl⟩ := rx
  obtain ⟨t', rfl⟩ := ry
  obtain ⟨j, h1, h2, h3, h4, h5⟩ := atI_get he
  have hl : z.cps.toList.length = z.length := by simp [Str.length]
  rw [hl] at h1 h4 h5
  have hn := line63
  exact tail_any (typeIs_str s z t) slot_str_getitem.lookup (getItem_str (c := c) (by
    have e1 : decide (i < -(2 ^ 63 : Int)) = false := decide_eq_false (by omega)
    have e2 : decide (i ≥ 2 ^ 63) = false := decide_eq_false (by omega)
    rw [e1, e2, Bool.or_false]) (by rw [h1]; simpa using h2) ⟨.str ⟨#[c]⟩, H, I.tok _, ⟨_, rfl⟩, q⟩) hs
theorem mapSeq_set (its : List Value) (n j : Nat) (u : Value) : Obj.mapSeq (·.setIfInBounds j u) { cls := .type "list", data := .seq its.toArray n } = { cls := .type "list", data := .seq (its.set j u).toArray n } := by
  simp [Obj.mapSeq]
theorem Inv.lst {pins : List (Addr × Obj)} {σ : St} {H : Hp} {s : Shared} {p : Addr} {xs : List V} (I : Inv X pins σ H s) (h : H p = some (.lst xs)) :
    ∃ (its : List Value) (n : Nat), Vals xs its ∧ s.heap.get? p = some { cls := .type "list", data := .seq its.toArray n } ∧ xs.length ≤ sizeLine := by
  obtain ⟨z, its, n, r, e⟩ := I.hok p _ h
  exact ⟨its, n, r, e, z⟩
theorem Inv.lstUpd {pins : List (Addr × Obj)} {σ : St} {H : Hp} {s : Shared} {p : Addr} {xs ys : List V} {its its' : List Value} {n n' : Nat} {f : Obj → Obj} (I : Inv X pins σ H s) (h : H p = some (.lst xs))
    (ho : s.heap.get? p = some { cls := .type "list", data := .seq its.toArray n }) (hf : f { cls := .type "list", data := .seq its.toArray n } = { cls := .type "list", data := .seq its'.toArray n' }) (r : Vals ys its') (hz : ys.length ≤ sizeLine) (t : Nat) :
    Inv X pins σ (upd H p (.lst ys)) { s with heap := s.heap.update p f, toks := t } := by
  have e : (s.heap.update p f).get? p = some { cls := .type "list", data := .seq its'.toArray n' } := by
    rw [Heap.get?_update_self f ho (by rw [hf] <;> rfl), hf]
  refine I.write (x := p) (e := p) (by rw [h]; trivial) (.inl rfl) (fun b u hb q => (Heap.get?_update_other _ _ (Ne.symm hb)).trans q) ⟨_, e⟩ ?_
  exact ⟨hz, its', n', r, e⟩
def rSetL : V → V → V → Hp → (Hp → Prop) → Prop := fun o i v H Q => ∃ p xs k j, o = .ref p ∧ i = .int k ∧ H p = some (.lst xs) ∧ ixN xs.length k = some j ∧ Q (upd H p (.lst (xs.set j v)))
theorem set_list : PSet X rSetL := by
  intro pins s σ H o i v ov iv u Q I ro ri rv h
  obtain ⟨p, xs, k, j, rfl, rfl, hp, hj, q⟩ := h
  cases ro
  obtain ⟨t, rfl⟩ := ri
  obtain ⟨its, n, r, ho, hz⟩ := I.lst hp
  obtain ⟨h1, h2, h3, h4⟩ := ixN_seq hj
  have hl := r.length
  have hn := line63
  have I' : Inv X pins σ (upd H p (.lst (xs.set j v))) { s with heap := s.heap.update p (Obj.mapSeq (·.setIfInBounds j u)) } :=
    I.lstUpd hp ho (mapSeq_set its n j u) (r.set rv j) (by rw [List.length_set]; exact hz) s.toks
  by_cases h0 : 0 ≤ k
  · have hk : k.toNat = j := by
      rw [seqIndex_of h0 h4] at h1
      exact Option.some.inj h1
    exact PySem.W.ki_setAt ho h0 (by omega) (by rw [List.size_toArray, ← hl]; exact h4) (by rw [hk]; exact ⟨_, I', q⟩)
  · have hk : (k + (its.toArray.size : Int)).toNat = j := by
      rw [seqIndex_neg (by omega) h3] at h1
      rw [List.size_toArray, ← hl]
      exact Option.some.inj h1
    exact PySem.W.ki_setBack ho (by omega) (by rw [List.size_toArray, ← hl]; exact h3) (by omega) (by rw [hk]; exact ⟨_, I', q⟩)

theorem slice_bounds (lo hi : Option Int) (n : Nat) : (sliceBounds lo hi none n).1 = ((HT.sIx n 0 lo : Nat) : Int) ∧ (sliceBounds lo hi none n).2.1 = ((HT.sIx n n hi : Nat) : Int) ∧ (sliceBounds lo hi none n).2.2 = 1 := by
  refine ⟨?_, ?_, rfl⟩
  · cases lo with
    | none => simp [sliceBounds, HT.sIx]
    | some i =>
      simp only [sliceBounds, HT.sIx, Option.getD_none, show (1 : Int) > 0 by decide, if_true]
      by_cases h : i < 0
      · simp only [h, if_true] <;> omega
      · simp only [h, if_false] <;> omega
  · cases hi with
    | none => simp [sliceBounds, HT.sIx]
    | some i =>
      simp only [sliceBounds, HT.sIx, Option.getD_none, show (1 : Int) > 0 by decide, if_true]
      by_cases h : i < 0
      · simp only [h, if_true] <;> omega
      · simp only [h, if_false] <;> omega
theorem slicePick_cut (its : List Value) (lo hi : Option Int) : slicePick its.toArray lo hi none = ((its.drop (HT.sIx its.length 0 lo)).take (HT.sIx its.length its.length hi - HT.sIx its.length 0 lo)).toArray := by
  obtain ⟨h1, h2, h3⟩ := slice_bounds lo hi its.toArray.size
  unfold slicePick
  rw [h1, h2, h3]
  simp only [sliceRange_one, pick_run, List.size_toArray] <;> rfl
def rSlL (K : PySem.W.Frag) : V → Option Int → Option Int → Hp → VK → Prop := fun x lo hi H Q => ∃ a xs, x = .ref a ∧ SqL K H a xs ∧ ∀ p, H p = none → Q (.ref p) (upd H p (.lst (cutV xs lo hi)))
theorem sl_list : SlR X (rSlL X.K) := by
  intro pins s σ H x v vl vu lo hi sl Q I rx hs pl pu h
  obtain ⟨a, xs, rfl, hx, q⟩ := h
  cases rx
  obtain ⟨its, r, ht, hz⟩ := I.list hx
  have hlen := r.length
  refine ⟨"list", _, slot_list_getitem.lookup, ht.isList.typeIs, ?_⟩
  refine wpAny_getItem_list_slice ht.isList hs pl pu .none (by simp) ?_ (by rw [List.size_toArray] <;> omega)
  rw [slicePick_cut, ← hlen]
  refine ⟨.ref s.heap.objs.size, _, I.laid (t' := s.toks) (o := .lst (cutV xs lo hi)) (fun b ob q => Heap.get?_push_of_some _ q) (Nat.le_refl _) ?_, rfl, q _ (I.hok.fresh (Nat.le_refl _))⟩
  exact ⟨Nat.le_trans (cutV_length xs lo hi) hz, _, 0, (r.drop (HT.sIx xs.length 0 lo)).take (HT.sIx xs.length xs.length hi - HT.sIx xs.length 0 lo), Heap.get?_push_size _ rfl⟩

def flatV : V → Bool
  | .non => true
  | .bl _ => true
  | .int _ => true
  | .str _ => true
  | _ => false
def eqV : V → V → Bool
  | .non, .non => true
  | .bl a, .bl b => a == b
  | .bl a, .int b => (if a then 1 else 0) == b
  | .int a, .bl b => a == (if b then 1 else 0)
  | .int a, .int b => a == b
  | .str a, .str b => a == b
  | _, _ => false
theorem eqAt_V {A : Around} {s : Shared} {y x : V} {u v : Value} (ry : RelV y u) (rx : RelV x v) (fy : flatV y = true) (fx : flatV x = true) : SeqAt.EqAt A s u v (eqV y x) := by
  cases y with
  | non =>
    cases ry
    cases x with
    | non => cases rx; exact SeqAt.EqAt.same _
    | bl b => cases rx; exact SeqAt.EqAt.none_bool b
    | int b => obtain ⟨t, rfl⟩ := rx; exact SeqAt.EqAt.none_int b t
    | str b => obtain ⟨t, rfl⟩ := rx; exact SeqAt.EqAt.none_str b t
    | _ => exact absurd (show false = true from fx) Bool.false_ne_true
  | bl a =>
    cases ry
    cases x with
    | non => cases rx; exact SeqAt.EqAt.bool_none a
    | bl b => cases rx; exact SeqAt.EqAt.bool_bool a b
    | int b => obtain ⟨t, rfl⟩ := rx; exact SeqAt.EqAt.bool_int a b t
    | str b => obtain ⟨t, rfl⟩ := rx; exact SeqAt.EqAt.bool_str a b t
    | _ => exact absurd (show false = true from fx) Bool.false_ne_true
  | int a =>
    obtain ⟨t', rfl⟩ := ry
    cases x with
    | non => cases rx; exact SeqAt.EqAt.int_none a t'
    | bl b => cases rx; exact SeqAt.EqAt.int_bool a t' b
    | int b => obtain ⟨t, rfl⟩ := rx; exact SeqAt.EqAt.int_int a t' b t
    | str b => obtain ⟨t, rfl⟩ := rx; exact SeqAt.EqAt.int_str a t' b t
    | _ => exact absurd (show false = true from fx) Bool.false_ne_true
  | str a =>
    obtain ⟨t', rfl⟩ := ry
    cases x with
    | non => cases rx; exact SeqAt.EqAt.str_none a t'
    | bl b => cases rx; exact SeqAt.EqAt.str_bool a t' b
    | int b => obtain ⟨t, rfl⟩ := rx; exact SeqAt.EqAt.str_int a t' b t
    | str b => obtain ⟨t, rfl⟩ := rx; exact SeqAt.EqAt.str_str a t' b t
    | _ => exact absurd (show false = true from fx) Bool.false_ne_true
  | _ => exact absurd (show false = true from fy) Bool.false_ne_true
def eqU (x : V) (u : Value) : Bool := match u with
  | .none => eqV .non x
  | .bool b => eqV (.bl b) x
  | .int i _ => eqV (.int i) x
  | .str z _ => eqV (.str z) x
  | _ => false
theorem eqU_of {x y : V} {u : Value} (r : RelV y u) (f : flatV y = true) : eqU x u = eqV y x := by
  cases y with
  | non => cases r; rfl
  | bl b => cases r; rfl
  | int i => obtain ⟨t, rfl⟩ := r; rfl
  | str z => obtain ⟨t, rfl⟩ := r; rfl
  | _ => exact absurd (show false = true from f) Bool.false_ne_true
theorem any_eqU {x : V} : ∀ {xs : List V} {us : List Value}, Vals xs us → xs.all flatV = true → us.any (eqU x) = xs.any fun y => eqV y x
  | _, _, .nil, _ => rfl
  | y :: xs, u :: us, .cons r t, f => by
    rw [List.all_cons, Bool.and_eq_true] at f
    rw [List.any_cons, List.any_cons, eqU_of r f.1, any_eqU t f.2]
theorem mem_eqAt {A : Around} {s : Shared} {x : V} {v : Value} (rx : RelV x v) (fx : flatV x = true) : ∀ {xs : List V} {us : List Value}, Vals xs us → xs.all flatV = true → ∀ u ∈ us, SeqAt.EqAt A s u v (eqU x u)
  | _, _, .nil, _ => fun u hu => by cases hu
  | y :: xs, u :: us, .cons r t, f => fun u' hu => by
    rw [List.all_cons, Bool.and_eq_true] at f
    rcases List.mem_cons.mp hu with rfl | hu
    · rw [eqU_of r f.1]; exact eqAt_V r rx f.1 fx
    · exact mem_eqAt rx fx t f.2 u' hu
def inV (x : V) (xs : List V) : Bool := xs.any fun y => eqV y x
def rIn (K : PySem.W.Frag) (neg : Bool) : R2 := fun x y H Q => ∃ p xs, y = .ref p ∧ (SqL K H p xs ∨ SqT K H p xs) ∧ flatV x = true ∧ xs.all flatV = true ∧ Q (.bl (if neg then !inV x xs else inV x xs)) H
theorem op_in_seq : OpR X (compareOp .In) (rIn X.K false) := by
  intro pins s σ H x y v u Q I rx ry h
  obtain ⟨p, xs, rfl, hq, fx, fs, q⟩ := h
  cases ry
  rcases hq with hq | hq
  · obtain ⟨its, r, pl, hz⟩ := I.list hq
    refine SeqAt.in_listAt (eqU x) pl.isList (fun w hw => mem_eqAt rx fx r fs w (by simpa using hw)) ⟨.bl _, H, I, rfl, ?_⟩
    rw [show its.toArray.any (eqU x) = its.any (eqU x) by simp, any_eqU r fs]
    exact q
  · obtain ⟨its, r, pl, hz⟩ := I.tuple hq
    refine SeqAt.in_tupleAt (eqU x) pl (fun w hw => mem_eqAt rx fx r fs w (by simpa using hw)) ⟨.bl _, H, I, rfl, ?_⟩
    rw [show its.toArray.any (eqU x) = its.any (eqU x) by simp, any_eqU r fs]
    exact q
theorem op_notIn_seq : OpR X (compareOp .NotIn) (rIn X.K true) := by
  intro pins s σ H x y v u Q I rx ry h
  obtain ⟨p, xs, rfl, hq, fx, fs, q⟩ := h
  cases ry
  rcases hq with hq | hq
  · obtain ⟨its, r, pl, hz⟩ := I.list hq
    refine SeqAt.notIn_listAt (eqU x) pl.isList (fun w hw => mem_eqAt rx fx r fs w (by simpa using hw)) ⟨.bl _, H, I, rfl, ?_⟩
    rw [show its.toArray.any (eqU x) = its.any (eqU x) by simp, any_eqU r fs]
    exact q
  · obtain ⟨its, r, pl, hz⟩ := I.tuple hq
    refine SeqAt.notIn_tupleAt (eqU x) pl (fun w hw => mem_eqAt rx fx r fs w (by simpa using hw)) ⟨.bl _, H, I, rfl, ?_⟩
    rw [show its.toArray.any (eqU x) = its.any (eqU x) by simp, any_eqU r fs]
    exact q
theorem call_len_seq : CallR X (.builtin "len") (fun xs H Q => ∃ p ys, xs = [.ref p] ∧ (SqL X.K H p ys ∨ SqT X.K H p ys) ∧ Q (.int ys.length) H) := by
  intro pins s σ H xs us Q I r h
  obtain ⟨p, ys, rfl, hq, q⟩ := h
  obtain ⟨u, rfl, rx⟩ := vals1 r
  cases rx
  have hn := line63
  rcases hq with hq | hq
  · obtain ⟨its, r', pl, hz⟩ := I.list hq
    have hlen := r'.length
    exact Calls.call_len_list pl.isList (by simp only [List.size_toArray] <;> omega) ⟨.int ys.length, H, I.tok _, ⟨s.toks + 1, by rw [List.size_toArray, hlen]⟩, q⟩
  · obtain ⟨its, r', pl, hz⟩ := I.tuple hq
    have hlen := r'.length
    exact len_tuple pl (by simp only [List.size_toArray] <;> omega) ⟨.int ys.length, H, I.tok _, ⟨s.toks + 1, by rw [List.size_toArray, hlen]⟩, q⟩
theorem call_len_str : CallR X (.builtin "len") (fun xs H Q => ∃ z, xs = [.str z] ∧ z.length ≤ sizeLine ∧ Q (.int z.length) H) := by
  intro pins s σ H xs us Q I r h
  obtain ⟨z, rfl, hz, q⟩ := h
  obtain ⟨u, rfl, t, rfl⟩ := vals1 r
  have hn := line63
  exact len_str (by omega) ⟨.int z.length, H, I.tok _, ⟨_, rfl⟩, q⟩
theorem call_list_of : CallR X (.type "list") (fun xs H Q => ∃ p ys, xs = [.ref p] ∧ (SqL X.K H p ys ∨ SqT X.K H p ys) ∧ ∀ l, H l = none → Q (.ref l) (upd H l (.lst ys))) := by
  intro pins s σ H xs us Q I r h
  obtain ⟨p, ys, rfl, hq, q⟩ := h
  obtain ⟨u, rfl, rx⟩ := vals1 r
  cases rx
  have fin : ∀ (its : List Value), Vals ys its → ys.length ≤ sizeLine → ∀ (h' : Heap) (c' : Nat), (∀ b o', s.heap.get? b = some o' → h'.get? b = some o') →
      h'.get? s.heap.objs.size = some { cls := .type "list", dict := none, data := .seq its.toArray c', slots := #[] } → EP X pins σ Q (.ref s.heap.objs.size) { s with heap := h' } := fun its r' hz h' c' kp e =>
    ⟨.ref s.heap.objs.size, _, I.laid (t' := s.toks) kp (Nat.le_refl _) (show ObjOk X.prog X.w _ h' _ (.lst ys) from ⟨hz, its, c', r', e⟩), rfl, q _ (I.hok.fresh (Nat.le_refl _))⟩
  rcases hq with hq | hq
  · obtain ⟨its, r', pl, hz⟩ := I.list hq
    have hlen := r'.length
    obtain ⟨o, ho, hc, n, hd⟩ := pl.isList
    exact call_list_seq p (.inl rfl) ho hc hd (fun h' c' kp e => fin its r' hz h' c' kp e) (by simp only [List.size_toArray] <;> omega)
  · obtain ⟨its, r', pl, hz⟩ := I.tuple hq
    have hlen := r'.length
    obtain ⟨o, ho, hc, n, hd⟩ := pl
    exact call_list_seq p (.inr rfl) ho hc hd (fun h' c' kp e => fin its r' hz h' c' kp e) (by simp only [List.size_toArray] <;> omega)
theorem call_tuple_of : CallR X (.type "tuple") (fun xs H Q => ∃ p ys, xs = [.ref p] ∧ ((SqL X.K H p ys ∧ ∀ l, H l = none → Q (.ref l) (upd H l (.tup ys))) ∨ (SqT X.K H p ys ∧ Q (.ref p) H))) := by
  intro pins s σ H xs us Q I r h
  obtain ⟨p, ys, rfl, h⟩ := h
  obtain ⟨u, rfl, rx⟩ := vals1 r
  cases rx
  rcases h with ⟨hq, q⟩ | ⟨hq, q⟩
  · obtain ⟨its, r', pl, hz⟩ := I.list hq
    have hlen := r'.length
    refine call_tuple_list pl.isList (fun h' kp => ?_) (by simp only [List.size_toArray] <;> omega)
    have I1 : Inv X pins σ H { s with heap := h' } := I.kept (t' := s.toks) kp
    have I2 : Inv X pins σ (upd H h'.objs.size (.tup ys)) { s with heap := h'.push { cls := .type "tuple", data := .seq its.toArray } } :=
      I1.laid (t' := s.toks) (fun b o e => Heap.get?_push_of_some _ e) (Nat.le_refl _) (show ObjOk X.prog X.w _ _ _ (.tup ys) from ⟨⟨hz, _, Heap.get?_push_size _ rfl, rfl⟩, its, r', IsTup.new _ _⟩)
    exact ⟨.ref h'.objs.size, _, I2, rfl, q _ (I1.hok.fresh (Nat.le_refl _))⟩
  · obtain ⟨its, r', pl, hz⟩ := I.tuple hq
    exact call_tuple_same pl ⟨.ref p, H, I, rfl, q⟩

def tyV (K : PySem.W.Frag) (T : String) (x : V) (H : Hp) : Prop := match x with
  | .str _ => T = "str"
  | .int _ => T = "int"
  | .ref p => (T = "list" ∧ ∃ xs, SqL K H p xs) ∨ (T = "tuple" ∧ ∃ o, K.lookup p = some o ∧ o.cls = .type "tuple" ∧ o.dict = none) ∨
      (T = "dict" ∧ ((∃ kvs, H p = some (.dK kvs)) ∨ ∃ kvs, H p = some (.dT kvs))) ∨ (T = "set" ∧ ∃ S n, H p = some (.set S n))
  | _ => False
theorem tyV_is {pins : List (Addr × Obj)} {σ : St} {H : Hp} {s : Shared} {T : String} {x : V} {v : Value} (I : Inv X pins σ H s) (r : RelV x v) (ty : tyV X.K T x H) :
    s.TypeIs v T ∧ ∀ a, v = .ref a → ∃ ob, s.heap.get? a = some ob ∧ ob.dict = none := by
  cases x with
  | str z =>
    obtain ⟨t, rfl⟩ := r
    cases (show T = "str" from ty)
    exact ⟨typeIs_str s z t, fun _ e => nomatch e⟩
  | int i =>
    obtain ⟨t, rfl⟩ := r
    cases (show T = "int" from ty)
    exact ⟨typeIs_int s i t, fun _ e => nomatch e⟩
  | ref p =>
    cases r
    rcases ty with ⟨rfl, xs, hq⟩ | ⟨rfl, o, hk, hc, hd⟩ | ⟨rfl, hk⟩ | ⟨rfl, S, n, hk⟩
    · obtain ⟨its, _, pl, _⟩ := I.list hq
      refine ⟨pl.isList.typeIs, fun a e => ?_⟩
      cases e
      obtain ⟨o, n, e, c, hd, _⟩ := pl
      exact ⟨o, e, hd⟩
    · refine ⟨⟨o, I.kIn p o hk, hc⟩, fun a e => ?_⟩
      cases e
      exact ⟨o, I.kIn _ o hk, hd⟩
    · have z : ∃ o, s.heap.get? p = some o ∧ o.ExactDict := by
        rcases hk with ⟨kvs, hk⟩ | ⟨kvs, hk⟩
        · obtain ⟨_, _, _, _, o, _, _, e, ex, _⟩ := I.hok p _ hk
          exact ⟨o, e, ex⟩
        · obtain ⟨_, _, _, _, o, _, _, e, ex, _⟩ := I.hok p _ hk
          exact ⟨o, e, ex⟩
      obtain ⟨o, e, ex⟩ := z
      refine ⟨⟨o, e, ex.1⟩, fun a e2 => ?_⟩
      cases e2
      exact ⟨o, e, ex.2.1⟩
    · obtain ⟨o, _, _, _, e, ex, _⟩ := I.hok p _ hk
      refine ⟨⟨o, e, ex.1⟩, fun a e2 => ?_⟩
      cases e2
      exact ⟨o, e, ex.2.1⟩
  | _ => exact False.elim ty
def tBM (K : PySem.W.Frag) (T : String) (r : V → List V → Hp → VK → Prop) (to : TE) (t : TA) : TE := fun σ H Q => to σ H fun x H1 => tyV K T x H1 ∧ t σ H1 fun xs H2 => r x xs H2 Q
variable {o e : Expr} {es : List Expr} {to : TE} {t : TA} {name : Str} {apos cpos : Pos} {T id : String} {r : V → List V → Hp → VK → Prop}
theorem pe_bm (pa : PlainAttrs T) (slot : Slot T name id) (hty : typeOf (.builtin id) = pure (.type "method_descriptor")) (hm : MtR X id r) (ho : PE X o to) (ha : PA X (e :: es) t)
    (hbase : attributeBase o name X.env (eval o X.env) = eval o X.env := by rfl)
    (hfew : ((backTo cpos (starEach (e :: es) X.env)).all (fun x => !x.1) && (backToKw cpos (keywordEach [] X.env)).all (fun x => x.1.isSome)
      && decide ((e :: es).length + ([] : List Keyword).length + (if ([] : List Keyword).isEmpty then 0 else 1) < 30)) = true := by rfl)
    (hline : (apos.endLine == cpos.line) = true := by rfl) (hs : starEach (e :: es) X.env = (false, eval e X.env) :: starEach es X.env := by rfl) (hplain : (backTo cpos (starEach es X.env)).any (·.1) = false := by rfl) :
    PE X (.Call (.Attribute o name apos) (e :: es) [] cpos) (tBM X.K T r to t) := by
  intro pins s σ H Q I h
  refine wpAny_Call_method_late hbase hfew hline rfl (thn (ho pins s σ H _ I h) fun v s1 ⟨x, H1, I1, r1, ty, q1⟩ => ?_)
  obtain ⟨h1, h2⟩ := tyV_is I1 r1 ty
  refine ⟨T, id, pa, slot, hty, h1, h2, ?_⟩
  have hA := ha cpos pins s1 σ H1 _ I1 q1
  rw [hs] at hA ⊢
  refine Calls.callWith_builtin (by show (false || (backTo cpos (starEach es X.env)).any (·.1)) = false; rw [hplain] <;> rfl) (Calls.evalArgs_plain ?_)
  exact thn hA fun us s2 ⟨vs, H2, I2, r2, q2⟩ => hm pins s2 σ H2 x vs v us Q I2 r1 r2 q2
end
end L2

namespace L2
open PySem PySem.Spec PyProof.Rows

def MtM (X : Cx) (id : String) (r : V → List V → Hp → VK → Prop) : Prop :=
  ∀ (pins : List (Addr × Obj)) (s : Shared) (σ : St) (H : Hp) (x : V) (xs : List V) (v : Value) (us : List Value) (Q : VK), Inv X pins σ H s → RelV x v → Vals xs us → r x xs H Q →
    wpAny (model X.prog X.w) X.A (call (.builtin id) (v :: us)) (EP X pins σ Q) X.xe s

theorem Vals.one : ∀ {x : V} {us : List Value}, Vals [x] us → ∃ u, us = [u] ∧ RelV x u
  | _, _, .cons r .nil => ⟨_, rfl, r⟩
theorem Vals.eraseIdx : ∀ {xs : List V} {us : List Value} (i : Nat), Vals xs us → Vals (xs.eraseIdx i) (us.eraseIdx i)
  | _, _, _, .nil => .nil
  | _, _, 0, .cons _ t => t
  | _, _, i + 1, .cons r t => .cons r (Vals.eraseIdx i t)
theorem Vals.reverse {xs : List V} {us : List Value} (h : Vals xs us) : Vals xs.reverse us.reverse := by
  induction h with
  | nil => exact .nil
  | cons r t ih => rw [List.reverse_cons, List.reverse_cons]; exact Vals.append ih (.cons r .nil)
theorem Vals.rep {xs : List V} {us : List Value} (h : Vals xs us) : ∀ k : Nat, Vals (List.replicate k xs).flatten (List.replicate k us).flatten
  | 0 => .nil
  | k + 1 => by
    rw [List.replicate_succ, List.replicate_succ, List.flatten_cons, List.flatten_cons]
    exact Vals.append h (Vals.rep h k)
theorem foldl_rep (its : List Value) : ∀ (k : Nat) (acc : List Value),
    List.foldl (fun x1 x2 => x1 ++ x2) acc.toArray (List.replicate k its.toArray) = (acc ++ (List.replicate k its).flatten).toArray
  | 0, acc => by simp
  | k + 1, acc => by
    have e : acc.toArray ++ its.toArray = (acc ++ its).toArray := by simp
    have e2 : (acc ++ its) ++ (List.replicate k its).flatten = acc ++ (List.replicate (k + 1) its).flatten := by
      rw [List.replicate_succ, List.flatten_cons, List.append_assoc]
    rw [← e2, ← foldl_rep its k (acc ++ its), ← e, List.replicate_succ, List.foldl_cons]

section
variable {X : Cx} {pins : List (Addr × Obj)} {σ : St} {H : Hp} {s : Shared} {l b : Addr} {xs ys zs : List V}

theorem Inv.lset {its its' : List Value} {n : Nat} {f : Array Value → Array Value} {t' : Nat} (I : Inv X pins σ H s) (hH : H l = some (.lst xs))
    (e : s.heap.get? l = some { cls := .type "list", data := .seq its.toArray n }) (hf : f its.toArray = its'.toArray) (hv : Vals ys its') (hz : ys.length ≤ sizeLine) :
    Inv X pins σ (upd H l (.lst ys)) { s with heap := s.heap.update l (Obj.mapSeq f), toks := t' } := by
  have q := PySem.IsL.update e f
  rw [hf] at q
  refine I.write (x := l) (e := l) (by rw [hH]; exact trivial) (.inl rfl) (fun b' u hb hu => (Heap.get?_update_other s.heap (Obj.mapSeq f) (Ne.symm hb)).trans hu) ⟨_, q⟩ ?_
  exact ⟨hz, its', _, hv, q⟩
theorem Inv.lnew {its : List Value} {t' : Nat} (I : Inv X pins σ H s) (hv : Vals ys its) (hz : ys.length ≤ sizeLine) :
    Inv X pins σ (upd H s.heap.objs.size (.lst ys)) { s with heap := s.heap.push { cls := .type "list", data := .seq its.toArray }, toks := t' } :=
  I.laid (fun _ _ q => Heap.get?_push_of_some _ q) (Nat.le_refl _) ⟨hz, its, 0, hv, Heap.get?_push_size _ rfl⟩
theorem Inv.fresh (I : Inv X pins σ H s) : H s.heap.objs.size = none := I.hok.fresh (Nat.le_refl _)
theorem Inv.lstM (I : Inv X pins σ H s) (hH : H l = some (.lst xs)) : xs.length ≤ sizeLine ∧ ∃ (its : List Value) (n : Nat), Vals xs its ∧ xs.length = its.length ∧ s.heap.get? l = some { cls := .type "list", data := .seq its.toArray n } := by
  obtain ⟨z, its, n, r, e⟩ := I.hok l _ hH
  exact ⟨z, its, n, r, r.length, e⟩

theorem notLongL {n : Nat} (h : n ≤ sizeLine) : Builtin.List.listTooLong n = false := by
  unfold Builtin.List.listTooLong
  exact decide_eq_false (by omega)
end

section
variable {X : Cx}

def rAppend : V → List V → Hp → VK → Prop := fun x vs H Q => ∃ l xs y, x = .ref l ∧ vs = [y] ∧ H l = some (.lst xs) ∧ xs.length < sizeLine ∧ Q .non (upd H l (.lst (xs ++ [y])))
theorem mt_append : MtM X "list.append" rAppend := by
  intro pins s σ H x vs v us Q I rx rv h
  obtain ⟨l, xs, y, rfl, rfl, hH, hz, q⟩ := h
  cases rx
  obtain ⟨u, rfl, ru⟩ := rv.one
  obtain ⟨z, its, n, r, hl, e⟩ := I.lstM hH
  refine call_meets F.slot_list_append ⟨_, e, rfl⟩ F.entry_list_append (F.args_list_append_2 _ _) (PySem.list_append l its.toArray n u (by rw [List.size_toArray]; omega)) ⟨e, ?_⟩
  refine ⟨.non, _, I.lset (its' := its ++ [u]) hH e (by simp) (r.append (.cons ru .nil)) ?_, rfl, q⟩
  rw [List.length_append, List.length_singleton]
  omega

def rCat : R2 := fun x y H Q => ∃ l b xs zs, x = .ref l ∧ y = .ref b ∧ H l = some (.lst xs) ∧ H b = some (.lst zs) ∧ xs.length + zs.length ≤ sizeLine ∧ ∀ p, H p = none → Q (.ref p) (upd H p (.lst (xs ++ zs)))
theorem op_cat : OpR X (binaryOp .Add) rCat := by
  intro pins s σ H x y v u Q I rx ry h
  obtain ⟨l, b, xs, zs, rfl, rfl, hH, hB, hz, q⟩ := h
  cases rx
  cases ry
  obtain ⟨z, its, n, r, hl, e⟩ := I.lstM hH
  obtain ⟨z2, its2, n2, r2, hl2, e2⟩ := I.lstM hB
  refine PySem.P.add_list e e2 ?_ (by rw [List.size_toArray, List.size_toArray]; omega)
  have ea : its.toArray ++ its2.toArray = (its ++ its2).toArray := by simp
  rw [ea]
  exact ⟨.ref _, _, I.lnew (t' := s.toks) (r.append r2) (by rw [List.length_append]; omega), rfl, q _ I.fresh⟩
def rRep : R2 := fun x y H Q => ∃ l k xs, x = .ref l ∧ y = .int k ∧ H l = some (.lst xs) ∧ -(2 ^ 63) ≤ k ∧ k < 2 ^ 63 ∧ xs.length * k.toNat ≤ sizeLine ∧
  ∀ p, H p = none → Q (.ref p) (upd H p (.lst (List.replicate k.toNat xs).flatten))
theorem len_rep {α : Type} (xs : List α) (k : Nat) : (List.replicate k xs).flatten.length = k * xs.length := by
  induction k with
  | zero => simp
  | succ k ih => rw [List.replicate_succ, List.flatten_cons, List.length_append, ih, Nat.succ_mul, Nat.add_comm]
theorem op_rep : OpR X (binaryOp .Mult) rRep := by
  intro pins s σ H x y v u Q I rx ry h
  obtain ⟨l, k, xs, rfl, rfl, hH, h1, h2, hz, q⟩ := h
  cases rx
  obtain ⟨t, rfl⟩ := ry
  obtain ⟨z, its, n, r, hl, e⟩ := I.lstM hH
  have hlen : its.toArray.size * k.toNat ≤ sizeLine := by rw [List.size_toArray, ← hl]; exact hz
  have hcap : ¬ its.toArray.size * k.toNat > (2 ^ 63 - 1) / 8 := by
    have : (sizeLine : Nat) ≤ (2 ^ 63 - 1) / 8 := by decide
    omega
  have hfit : ¬ (!Builtin.List.listFitsIndex k) = true := by
    rw [fitsIndex_both h1 h2]
    exact Bool.false_ne_true
  have hlong : ¬ Builtin.List.listTooLong (its.toArray.size * k.toNat) = true := by
    rw [notLongL hlen]
    exact Bool.false_ne_true
  have hnew : List.foldl (fun x1 x2 => x1 ++ x2) #[] (List.replicate (if its.toArray.isEmpty = true then 0 else k.toNat) its.toArray) = (List.replicate k.toNat its).flatten.toArray := by
    have f0 : ∀ m : Nat, List.foldl (fun x1 x2 => x1 ++ x2) #[] (List.replicate m its.toArray) = (List.replicate m its).flatten.toArray := fun m => by
      have := foldl_rep its m []
      rw [List.nil_append] at this
      exact this
    rw [f0]
    cases its with
    | nil => simp
    | cons a r' => rw [if_neg (by simp)]
  refine wpAny_binaryOp_repeat_ref (T := "list") (U := "int") (by decide) ⟨_, e, rfl⟩ (fun s' => typeIs_int s' k t) noFill_list_mul F.fills_int_mul F.slot_int_rmul repeat_list F.slot_int_index.lookup
    (call_meets F.slot_int_rmul (typeIs_int s k t) F.entry_int_rmul (F.args_int_rmul_2 _ _) (int___rmul___int_list k t l its.toArray n)
      ⟨e, rfl, ⟨_, e, rfl⟩, call_meets F.slot_list_mul ⟨_, e, rfl⟩ F.entry_list_mul (F.args_list_mul_2 _ _) (AutoListH.list___mul___list_int_3 l its.toArray n k t hfit hcap hlong) ⟨e, ?_⟩⟩)
  rw [hnew]
  exact ⟨.ref _, _, I.lnew (t' := s.toks) (r.rep k.toNat) (by rw [len_rep, Nat.mul_comm]; exact hz), rfl, q _ I.fresh⟩

end

section
variable {prog : Program} {w : World} {A : Around} {E : Value → Shared → Prop} {s : Shared}
end

section
variable {X : Cx}
end
end L2

namespace L2
open PySem PySem.Spec PyProof.Rows

section
variable {κ : Type} [DecidableEq κ]
def valV (kvs : List (κ × V)) (k : κ) : Option V := (kvs.find? fun kv => decide (kv.1 = k)).map (·.2)
def putK (kvs : List (κ × V)) (k : κ) (v : V) : List (κ × V) :=
  if (kvs.any fun kv => decide (kv.1 = k)) = true then kvs.map (fun kv => if kv.1 = k then (kv.1, v) else kv) else kvs ++ [(k, v)]
def dropK (kvs : List (κ × V)) (k : κ) : List (κ × V) := kvs.filter fun kv => decide (kv.1 ≠ k)

theorem valV_pos {p : κ × V} {r : List (κ × V)} {k : κ} (e : p.1 = k) : valV (p :: r) k = some p.2 := by simp [valV, List.find?_cons, e]
theorem valV_neg {p : κ × V} {r : List (κ × V)} {k : κ} (e : ¬ p.1 = k) : valV (p :: r) k = valV r k := by simp [valV, List.find?_cons, e]
theorem valV_any (k : κ) : ∀ kvs : List (κ × V), (kvs.any fun kv => decide (kv.1 = k)) = (valV kvs k).isSome
  | [] => rfl
  | p :: r => by
    rw [List.any_cons]
    by_cases e : p.1 = k
    · simp only [valV_pos e, decide_eq_true e, Bool.true_or, Option.isSome_some]
    · rw [valV_neg e, decide_eq_false e, Bool.false_or]; exact valV_any k r
theorem RelO.isSome_eq {o : Option V} {u : Option Value} (r : RelO o u) : o.isSome = u.isSome := by
  cases o with
  | none => cases u with
    | none => rfl
    | some _ => exact (show False from r).elim
  | some _ => cases u with
    | none => exact (show False from r).elim
    | some _ => rfl
theorem RelO.getD {o : Option V} {u : Option Value} {d : V} {d' : Value} (r : RelO o u) (rd : RelV d d') : RelV (o.getD d) (u.getD d') := by
  cases o with
  | none => cases u with
    | none => exact rd
    | some _ => exact (show False from r).elim
  | some _ => cases u with
    | none => exact (show False from r).elim
    | some _ => exact r

theorem KV.val {kvs : List (κ × V)} {vs : List (κ × Value)} (r : KV kvs vs) (k : κ) : RelO (valV kvs k) (valueAt vs k) := by
  unfold KV at r
  induction r with
  | nil => exact True.intro
  | @cons p q ps qs h t ih =>
    obtain ⟨h1, h2⟩ := h
    by_cases e : p.1 = k
    · have e' : q.1 = k := h1.symm.trans e
      have b : valueAt (q :: qs) k = some q.2 := by simp [valueAt, List.find?_cons, e']
      rw [valV_pos e, b]; exact h2
    · have e' : ¬ q.1 = k := fun z => e (h1.trans z)
      have b : valueAt (q :: qs) k = valueAt qs k := by simp [valueAt, List.find?_cons, e']
      rw [valV_neg e, b]; exact ih
theorem KV.any {kvs : List (κ × V)} {vs : List (κ × Value)} (r : KV kvs vs) (k : κ) : (kvs.any fun kv => decide (kv.1 = k)) = vs.any fun kv => decide (kv.1 = k) := by
  unfold KV at r
  induction r with
  | nil => rfl
  | cons h t ih => rw [List.any_cons, List.any_cons, ih, h.1]
theorem KV.repl {kvs : List (κ × V)} {vs : List (κ × Value)} (r : KV kvs vs) (k : κ) {y : V} {u : Value} (ry : RelV y u) :
    KV (kvs.map fun kv => if kv.1 = k then (kv.1, y) else kv) (vs.map fun kv => if kv.1 = k then (kv.1, u) else kv) := by
  unfold KV at r ⊢
  induction r with
  | nil => exact .nil
  | @cons p q ps qs h t ih =>
    rw [List.map_cons, List.map_cons]
    refine .cons ?_ ih
    obtain ⟨h1, h2⟩ := h
    by_cases e : p.1 = k
    · rw [if_pos e, if_pos (h1.symm.trans e)]; exact ⟨h1, ry⟩
    · rw [if_neg e, if_neg (fun z => e (h1.trans z))]; exact ⟨h1, h2⟩
theorem KV.put {kvs : List (κ × V)} {vs : List (κ × Value)} (r : KV kvs vs) (k : κ) {y : V} {u : Value} (ry : RelV y u) : KV (putK kvs k y) (stored vs k u) := by
  unfold putK stored
  rw [r.any k]
  by_cases e : (vs.any fun kv => decide (kv.1 = k)) = true
  · rw [if_pos e, if_pos e]; exact r.repl k ry
  · rw [if_neg e, if_neg e]; exact Paired.snoc r ⟨rfl, ry⟩
theorem KV.drop {kvs : List (κ × V)} {vs : List (κ × Value)} (r : KV kvs vs) (k : κ) : KV (dropK kvs k) (without vs k) := by
  unfold KV at r ⊢
  unfold dropK without
  induction r with
  | nil => exact .nil
  | @cons p q ps qs h t ih =>
    obtain ⟨h1, h2⟩ := h
    rw [List.filter_cons, List.filter_cons]
    by_cases e : p.1 = k
    · have a : ¬ decide (p.1 ≠ k) = true := by simp [e]
      have b : ¬ decide (q.1 ≠ k) = true := by simp [h1.symm.trans e]
      rw [if_neg a, if_neg b]; exact ih
    · have e' : ¬ q.1 = k := fun z => e (h1.trans z)
      have a : decide (p.1 ≠ k) = true := by simp [e]
      have b : decide (q.1 ≠ k) = true := by simp [e']
      rw [if_pos a, if_pos b]; exact .cons ⟨h1, h2⟩ ih
theorem KV.length {kvs : List (κ × V)} {vs : List (κ × Value)} (r : KV kvs vs) : kvs.length = vs.length := Paired.length r
end


theorem kV_is {P : Program} {w : World} {k : Key} {u : Value} (r : RelV (kV k) u) : (mixKind P w).is k u = true := by
  cases k with
  | inl i => obtain ⟨t, e⟩ := (show ∃ t, u = Value.int i t from r); subst e; exact mixKind_int P w i t
  | inr x => obtain ⟨t, e⟩ := (show ∃ t, u = Value.str x t from r); subst e; exact mixKind_str P w x t
abbrev KT (H : Hp) : List (List Key × V) → List (List Key × Addr × Value) → Prop := Paired fun p q => p.1 = q.1 ∧ H q.2.1 = some (.tup (p.1.map kV)) ∧ RelV p.2 q.2.2
theorem KT.val {H : Hp} {kvs : List (List Key × V)} {xs : List (List Key × Addr × Value)} (r : KT H kvs xs) (k : List Key) : RelO (valV kvs k) ((atKey xs k).map (·.2)) := by
  induction r with
  | nil => exact True.intro
  | @cons p q ps qs h t ih =>
    obtain ⟨h1, _, h2⟩ := h
    by_cases e : p.1 = k
    · have e' : q.1 = k := h1.symm.trans e
      have b : atKey (q :: qs) k = some q.2 := by simp [atKey, List.find?_cons, e']
      rw [valV_pos e, b]; exact h2
    · have e' : ¬ q.1 = k := fun z => e (h1.trans z)
      have b : atKey (q :: qs) k = atKey qs k := by simp [atKey, List.find?_cons, e']
      rw [valV_neg e, b]; exact ih
theorem KT.repl {H : Hp} {kvs : List (List Key × V)} {xs : List (List Key × Addr × Value)} (r : KT H kvs xs) (k : List Key) {y : V} {u : Value} (ry : RelV y u) :
    KT H (kvs.map fun kv => if kv.1 = k then (kv.1, y) else kv) (xs.map (putAt k u)) := by
  induction r with
  | nil => exact .nil
  | @cons p q ps qs h t ih =>
    rw [List.map_cons, List.map_cons]
    refine .cons ?_ ih
    obtain ⟨h1, h2, h3⟩ := h
    unfold putAt
    by_cases e : p.1 = k
    · rw [if_pos e, if_pos (h1.symm.trans e)]; exact ⟨h1, h2, ry⟩
    · rw [if_neg e, if_neg (fun z => e (h1.trans z))]; exact ⟨h1, h2, h3⟩
theorem KT.put {H : Hp} {kvs : List (List Key × V)} {xs : List (List Key × Addr × Value)} (r : KT H kvs xs) (k : List Key) {b : Addr} {y : V} {u : Value} (hb : H b = some (.tup (k.map kV))) (ry : RelV y u) :
    KT H (putK kvs k y) (storedH xs k b u) := by
  have e : (kvs.any fun kv => decide (kv.1 = k)) = (atKey xs k).isSome := by
    rw [valV_any, (r.val k).isSome_eq, Option.isSome_map]
  unfold putK storedH
  rw [e]
  by_cases q : (atKey xs k).isSome = true
  · rw [if_pos q, if_pos q]; exact r.repl k ry
  · rw [if_neg q, if_neg q]; exact Paired.snoc r ⟨rfl, hb, ry⟩
theorem KT.keeps {H H' : Hp} {kvs : List (List Key × V)} {xs : List (List Key × Addr × Value)} (r : KT H kvs xs) (ht : ∀ b ys, H b = some (.tup ys) → H' b = some (.tup ys)) : KT H' kvs xs :=
  Paired.mapP r fun _ _ z => ⟨z.1, ht _ _ z.2.1, z.2.2⟩

section
variable {P : Program} {w : World} {H : Hp} {h : Heap} {a : Addr}
end

section
variable {X : Cx} {pins : List (Addr × Obj)} {σ : St} {H : Hp} {s : Shared} {a : Addr} {y v : V} {u r : Value} {o : Option V} {A : Around} {E : Value → Shared → Prop}

theorem Inv.big (I : Inv X pins σ H s) : sysModules < s.heap.objs.size := by
  have h : mainGlobals < s.heap.objs.size := (I.mod.glob.keeps I.bk).lt
  exact Nat.lt_trans (by decide) h

end

section
variable {X : Cx} {pins : List (Addr × Obj)} {σ : St} {H : Hp} {s : Shared} {a : Addr} {kvs : List (Key × V)} {k : Key} {u : Value} {A : Around} {E : Value → Shared → Prop}
end


def NoSl (i : Expr) : Prop := ∀ ov iv, subscripted i false ov iv = operate [ov, iv] (getItem ov iv)
theorem subD_of {prog : Program} {w : World} {A : Around} {E : Value → Shared → Prop} {s : Shared} {env : Env} {value slice : Expr} {pos : Pos} {T id : String} {Q : Value → Shared → Prop}
    (hl : typeLookup (.type T) "__getitem__" = pure (some (.builtin id))) (hs : NoSl slice)
    (h : wpAny (model prog w) A (eval value env) (fun o s₁ => wpAny (model prog w) A (eval slice env) (fun i s₂ => s₂.TypeIs o T ∧ wpAny (model prog w) A (getItem o i) Q E s₂) E s₁) E s) :
    wpAny (model prog w) A (eval (.Subscript value slice pos) env) Q E s := by
  refine Subscript_ (wpAny_mono h (fun o s₁ h₁ => wpAny_mono h₁ (fun i s₂ h₂ => ?_) fun _ _ x => x) fun _ _ x => x)
  obtain ⟨hT, h₂⟩ := h₂
  unfold subscriptTail
  refine wpAny_bind ?_
  rw [getitemInPython_of_ne hT.not_modules]
  refine wpAny_bind (wpAny_specialOf hT hl ?_)
  have fin : wpAny (model prog w) A (subscripted slice false o i) (fun r s₃ => wpAny (model prog w) A (letTemporaryGo value o r >>= fun _ => pure r) Q E s₃) E s₂ := by
    rw [hs o i]
    exact wpAny_operating (wpAny_mono h₂ (fun r s₃ h₃ => wpAny_bind (wpAny_letTemporaryGo (wpAny_pure h₃))) fun _ _ x => x)
  first
    | exact wpAny_pure (wpAny_bind fin)
    | exact wpAny_bind (wpAny_pure (wpAny_bind fin))
    | exact wpAny_bind fin

section
variable {X : Cx} {o i e value : Expr} {pos pos' tpos : Pos} {td ty tv : TE}
end


theorem dk_empty {P : Program} {w : World} {H : Hp} (h : Heap) (hb : sysModules < h.objs.size) : ObjOk P w H (h.push { cls := .type "dict", data := .dict #[] }) h.objs.size (.dK []) :=
  ⟨Nat.zero_le _, beq_eq_false_iff_ne.mpr (Ne.symm (Nat.ne_of_lt hb)), [], .nil, Heap.DictOf.new h⟩
def tDNewK : TE := fun _ H Q => ∀ p, H p = none → Q (.ref p) (upd H p (.dK []))
section
variable {X : Cx} {pos : Pos}
theorem pe_dnewK : PE X (.Dict [] [] pos) tDNewK := fun pins s σ H Q I h =>
  wpAny_Dict_empty ⟨.ref s.heap.objs.size, _, I.laid (a := s.heap.objs.size) (o := .dK []) (t' := s.toks) (fun _ _ q => Heap.get?_push_of_some _ q) (Nat.le_refl _) (dk_empty s.heap I.big), rfl, h _ (I.hok.fresh (Nat.le_refl _))⟩
end

section
variable {X : Cx} {pins : List (Addr × Obj)} {σ : St} {H : Hp} {s : Shared} {a : Addr} {y d : V} {u r : Value} {o : Option V} {A : Around} {E : Value → Shared → Prop}
end

section
variable {X : Cx} {o e f : Expr} {apos cpos : Pos} {td ty tx : TE}
end

section
variable {X : Cx} {pins : List (Addr × Obj)} {σ : St} {H : Hp} {s : Shared} {a : Addr} {kvs : List (Key × V)} {A : Around} {E : Value → Shared → Prop}
end


section
variable {X : Cx} {pins : List (Addr × Obj)} {σ : St} {H : Hp} {s : Shared} {a : Addr} {y : V} {u : Value} {A : Around} {E : Value → Shared → Prop}
end
end L2

namespace Att
open PySem PySem.W PySem.Calls PyProof.Rows

theorem ints_of_wellAll {P : Params} {h : Heap} : ∀ (ns : List Int) (vs : List Value), WellAll P h vs (ns.map WData.int) → IntsAre vs ns := by
  intro ns
  induction ns with
  | nil =>
    intro vs w
    rw [List.map_nil] at w
    cases w
    exact .nil
  | cons n ns ih =>
    intro vs w
    rw [List.map_cons] at w
    cases w with
    | cons a b =>
      cases a
      exact .cons _ _ (ih _ b)

theorem script_of {l : OpenLaw} {n : Nat} (hn : l.most = some n) {P : Params} {h : Heap} {args : List WData} {vals : List Value}
    (hpre : l.row.toRowW.claim.pre args = true) (hwl : WellAll P h vals args) :
    ∃ a vs ns, vals = [Value.ref a] ∧ args = [WData.list (ns.map WData.int)] ∧ h.get? a = some { cls := .type "list", data := .seq vs.toArray } ∧ IntsAre vs ns ∧ ns.length ≤ n := by
  have hsh : WShape.hasAll [] args [.list .int] = true := (pre_splitW hpre).1
  have hc : l.pre.holds [] { args := args } = true := (pre_splitW hpre).2
  obtain ⟨d, r, rfl, h1, h2⟩ := hasAllW_cons hsh
  obtain rfl := hasAllW_nil h2
  obtain ⟨xs, rfl, h3⟩ := hasW_list h1
  obtain ⟨ns, rfl⟩ := items_int h3
  have hlen : ns.length ≤ n := by
    unfold OpenLaw.pre at hc
    have h4 : (WTm.not (.lt (.lit (.int (n : Int))) (.len (.arg 0)))).holds [] { args := [.list (ns.map .int)] } = true := by
      have h4 := (holds_andW hc).1
      rw [hn] at h4
      exact h4
    have h5 := condW_of h4 (w_not (w_lt w_lit (w_len_list (w_arg rfl))))
    rw [List.length_map] at h5
    refine Nat.le_of_not_lt fun q => ?_
    have q' : (n : Int) < ((ns.length : Nat) : Int) := by omega
    first
      | (rw [decide_eq_true q'] at h5; exact absurd h5 (by decide))
      | (simp at h5; omega)
  cases hwl with
  | cons w1 w2 =>
    cases w2
    cases w1 with
    | list ho hall => exact ⟨_, _, ns, rfl, rfl, ho, ints_of_wellAll ns _ hall, hlen⟩

theorem post_true (l : OpenLaw) (args : List WData) : l.row.toRowW.claim.post args (.bool true) args = true :=
  postW_of (r := l.row.toRowW) (X := (true == true))
    (show WShape.has [] (.bool true) .bool = true by first | rfl | decide | simp [WShape.has, WShape.arms, WShape.armsAll])
    (show (WTm.eq .res (.lit (.bool true))).value [] { args := args, res := some (.bool true), after := args } = some (.bool (true == true)) from w_eq_bool (w_res rfl) w_lit) rfl

theorem attach_call {l : OpenLaw} {n : Nat} {q : Program} {loose : List Str} {XP : (Str → Option Value) → Heap → Prop} {YP : World → Heap → Prop} {d : DefRec}
    (hn : l.most = some n) (hdf : d.params.defaults = [])
    (call : ∀ (w : World) (s₀ s₁ : Shared) (mg mb : Str → Option Value) (fa : Addr) (o : Obj) (pm cd doc : Value) (a : Addr) (vs : List Value) (ns : List Int),
      Ground q loose [] XP w s₀ mg mb s₁.heap → YP w s₁.heap →
      s₁.heap.get? fa = some o → o.data = .func (docDef d.name d.params d.body d.scope pm cd doc) → s₁.heap.CodeRec cd d.name → mg d.name = some (.ref fa) →
      s₁.heap.get? a = some { cls := .type "list", data := .seq vs.toArray } → IntsAre vs ns → ns.length ≤ n → s₁.gens = #[] →
      codeAny (model l.prog w) callerA (.call (.ref fa) ⟨[.ref a], []⟩) (fun r s' => r = .ok (.ret (.bool true)) ∧ OldK s₁.heap s'.heap ∧ s'.os = s₁.os ∧ AllBare s'.gens) s₁) :
    WalkO q loose XP YP l.row.toRowW d [] (fun f vs => PySem.call f vs) := by
  intro w s₀ s₁ mg mb G Y fa o pm cd doc dV kV ho hd hcd hD hmg hg args vals as hpre hlay hrd hwl hlo
  obtain rfl : dV = .none := Dflts.none hD hdf
  obtain rfl : kV = .none := Dflts.noKw hD
  obtain ⟨a, vs, ns, rfl, rfl, hobj, hints, hlen⟩ := script_of hn hpre hwl
  refine enter_call (codeAny_mono (call w s₀ s₁ mg mb fa o pm cd doc a vs ns G Y ho (fd_plain hd) hcd hmg hobj hints hlen hg) fun r s' hq => ?_)
  obtain ⟨rfl, h2, h3, h4⟩ := hq
  exact ⟨.inl ⟨.bool true, .bool true, [], rfl, fun _ => rfl, .bool true, post_true l _, fun _ => ⟨List.Pairwise.nil, fun _ hm => (nomatch hm)⟩⟩, h2, h3, h4⟩

section
variable {prog : Program} {w : World} {A : Around} {E : Value → Shared → Prop} {s : Shared} {K : Frag}

end
end Att

namespace L2
open PySem PySem.Spec PyProof.Rows

theorem vals_ints : ∀ {vs : List Value} {ns : List Int}, IntsAre vs ns → Vals (ns.map V.int) vs
  | _, _, .nil => .nil
  | _, _, .cons n t h => .cons ⟨t, rfl⟩ (vals_ints h)

def Only (H : Hp) : Prop := ∀ b, H b = none ∨ ∃ o xs, H b = some (.frz o (.lst xs))

theorem law_call {P : Program} {w : World} {K : PySem.W.Frag} {mg mb : Str → Option Value} {CX : CXT} {k : Nat} {fa a : Addr} {fd : FuncData} {x : Str} {sp : Sp} {s₁ : Shared} {vs : List Value} {ns : List Int}
    (KX : K.In s₁.heap) (hns : s₁.heap.Ns mainGlobals mg) (hb : s₁.heap.Ns builtinsNs mb) (hbb : ∀ x : Str, x ≠ "__name__" → mb x = bootBuiltins x) (hlim : s₁.heap.NoLimit) (hg : s₁.gens = #[])
    (ha : s₁.heap.get? a = some { cls := .type "list", data := .seq vs.toArray }) (hi : IntsAre vs ns) (hl : ns.length ≤ sizeLine) (hr : Room k callerA)
    (F : ∀ base : Heap, K.In base → base.Ns mainGlobals mg → FnOk P w K mg base CX k fa fd [x] sp) (hbind : ∀ (s : Shared) (u : Value), BindsTo s fd ⟨[u], []⟩ [(x, u)])
    (hsp : ∀ H : Hp, Only H → SqL K H a (ns.map V.int) → sp [.ref a] H (fun v _ => v = .bl true) fun _ _ _ => False)
    (hCX : ∀ H e s', CX [] H s₁ (fun _ _ _ => False) e s' → False) :
    codeAny (model P w) callerA (.call (.ref fa) ⟨[.ref a], []⟩) (fun r s' => r = .ok (.ret (.bool true)) ∧ OldK s₁.heap s'.heap ∧ s'.os = s₁.os ∧ AllBare s'.gens) s₁ := by
  have rv := vals_ints hi
  have lenV := hi.length
  -- from an abstract heap in which nothing but the script may be tracked
  have core : ∀ H : Hp, Only H → SqL K H a (ns.map V.int) → HOk P w H s₁.heap → (∀ b, H b ≠ none → b = a) → (H a ≠ none → K.lookup a = none) →
      codeAny (model P w) callerA (.call (.ref fa) ⟨[.ref a], []⟩) (fun r s' => r = .ok (.ret (.bool true)) ∧ OldK s₁.heap s'.heap ∧ s'.os = s₁.os ∧ AllBare s'.gens) s₁ := by
    intro H hO hS hok hA hK
    have base_of : ∀ {b : Addr} {o : Obj}, s₁.heap.get? b = some o → H b = none → (hidT s₁.heap H).get? b = some o := fun e n => hidT_get e n
    have noA : ∀ {b : Addr} {o : Obj} {es : Array DictEntry} {ep : Nat}, s₁.heap.get? b = some o → o.data = .dict es ep → H b = none := fun {b o es ep} e d => by
      cases q : H b with
      | none => rfl
      | some u =>
        have e' : b = a := hA b (by rw [q]; simp)
        subst e'
        rw [ha] at e; cases e
        have d' : Data.seq vs.toArray _ = Data.dict es ep := d
        cases d'
    have nsK : ∀ {b : Addr} {m : Str → Option Value}, s₁.heap.Ns b m → (hidT s₁.heap H).Ns b m := fun {b m} ⟨o, es, ep, e, d, r⟩ => ⟨o, es, ep, base_of e (noA e d), d, r⟩
    have hKb : K.In (hidT s₁.heap H) := fun b o e => base_of (KX b o e) (by
      cases q : H b with
      | none => rfl
      | some u =>
        have e' : b = a := hA b (by rw [q]; simp)
        subst e'
        rw [hK (by rw [q]; simp)] at e; cases e)
    have hM : Mod K mg (hidT s₁.heap H) := ⟨hKb, nsK hns, ⟨mb, nsK hb, hbb⟩, let ⟨mc, h1, h2⟩ := hlim; ⟨mc, nsK h1, h2⟩⟩
    have e0 : Env0 P w K mg (hidT s₁.heap H) callerA [] s₁ H := ⟨rfl, hM, fun b o e => of_hidT e, Nat.le_of_eq (hidT_size _ _), trivial, fun b hb => absurd (show b ∈ ([] : List Addr) from hb) (by simp), hok, .of_eq hg⟩
    refine codeAny_mono ((F _ hKb (nsK hns)).run callerA [] s₁ H ⟨[.ref a], []⟩ [.ref a] [.ref a] _ _ hr e0 (hbind s₁ (.ref a)) (.cons rfl .nil) (hsp H hO hS)) fun r s' h => ?_
    cases r with
    | error e => exact (hCX H e s' h).elim
    | ok fl =>
      cases fl with
      | next => exact False.elim h
      | brk => exact False.elim h
      | cont => exact False.elim h
      | ret u =>
        obtain ⟨v, H', os, bare, un, hok', r', q⟩ := h
        have q' : v = .bl true := q
        subst q'
        obtain rfl : u = Value.bool true := r'
        refine ⟨rfl, OldK.of_keep fun b o e => ?_, os, bare⟩
        cases q : H b with
        | none => exact un.keep b o e q (by intro z; exact absurd (show b ∈ ([] : List Addr) from z) (by simp)) (by simp)
        | some u =>
          rcases hO b with z | ⟨ob, xs, z⟩
          · rw [q] at z; cases z
          · have z2 := un.frzs b ob _ z
            obtain ⟨e1, _⟩ := hok b _ z
            obtain ⟨e2, _⟩ := hok' b _ z2
            rw [e] at e1; cases e1
            exact e2
  cases hk : K.lookup a with
  | some o =>
    -- the script is one of the module's own objects
    have e := KX a o hk
    rw [ha] at e
    cases e
    refine core (fun _ => none) (fun _ => .inl rfl) (.inr ⟨_, vs.toArray, _, hk, rfl, rfl, rfl, by rw [List.size_toArray, lenV]; exact hl, by simpa using rv⟩) (fun b u z => by have z' : (none : Option HO) = some u := z; cases z') (fun b z => absurd rfl z) fun z => absurd rfl z
  | none =>
    refine core (fun b => if b = a then some (.frz { cls := .type "list", data := .seq vs.toArray } (.lst (ns.map V.int))) else none) (fun b => ?_) (.inl (.inr ⟨{ cls := .type "list", data := .seq vs.toArray }, if_pos rfl⟩)) (fun b u z => ?_) (fun b z => ?_) fun _ => hk
    · by_cases hb : b = a
      · exact .inr ⟨_, _, if_pos hb⟩
      · exact .inl (if_neg hb)
    · by_cases hb : b = a
      · have z' := (if_pos hb).symm.trans z
        cases z'
        subst hb
        exact ⟨ha, by rw [List.length_map]; exact hl, vs, _, rv, ha⟩
      · have z' := (if_neg hb).symm.trans z
        cases z'
    · by_cases hb : b = a
      · exact hb
      · exact absurd (if_neg hb) z
end L2

namespace L2
open PySem PySem.Spec PyProof.Rows

theorem walk_of {l : PySem.W.OpenLaw} {n k : Nat} {q : Program} {loose : List Str} {XP : (Str → Option Value) → Heap → Prop} {YP : World → Heap → Prop} {d : DefRec} {K : Params → PySem.W.Frag} {CX : World → CXT} {sp : World → Sp} {x : Str}
    (hn : l.most = some n) (hn2 : n ≤ sizeLine) (hdf : d.params.defaults = []) (hr : Room k callerA)
    (hY : ∀ (w : World) (h : Heap), YP w h → (K w.params).In h)
    (F : ∀ (w : World) (mg : Str → Option Value) (fa : Addr) (h : Heap), (K w.params).In h → h.Ns mainGlobals mg → mg d.name = some (.ref fa) →
      ∃ fd : FuncData, (∀ (s : Shared) (u : Value), BindsTo s fd ⟨[u], []⟩ [(x, u)]) ∧
        ∀ base : Heap, (K w.params).In base → base.Ns mainGlobals mg → FnOk l.prog w (K w.params) mg base (CX w) k fa fd [x] (sp w))
    (hsp : ∀ (w : World) (H : Hp) (a : Addr) (ns : List Int), ns.length ≤ n → Only H → SqL (K w.params) H a (ns.map V.int) → sp w [.ref a] H (fun v _ => v = .bl true) fun _ _ _ => False)
    (hCX : ∀ (w : World) (H : Hp) (s : Shared) (e : Value) (s' : Shared), CX w [] H s (fun _ _ _ => False) e s' → False) :
    PySem.W.WalkO q loose XP YP l.row.toRowW d [] (fun f vs => PySem.call f vs) := by
  refine Att.attach_call hn hdf fun w s₀ s₁ mg mb fa o pm cd doc a vs ns G Y ho hd hcd hmg hobj hints hlen hg => ?_
  have KX := hY w _ Y
  obtain ⟨fd, hb, hF⟩ := F w mg fa _ KX G.T.g hmg
  exact law_call KX G.T.g G.T.b G.T.builtins G.T.nolimit hg hobj hints (Nat.le_trans hlen hn2) hr hF hb (fun H hO hS => hsp w H a ns hlen hO hS) fun H e s' => hCX w H s₁ e s'
end L2


namespace L2
open PySem PySem.Spec PyProof.Rows

def defArgs (s : Stmt) : Arguments := match s with
  | .FunctionDef _ a _ _ _ _ _ _ _ _ => a
  | _ => { posonlyargs := [], args := [], vararg := none, kwonlyargs := [], kw_defaults := [], kwarg := none, defaults := [] }
def defBody (s : Stmt) : List Stmt := match s with
  | .FunctionDef _ _ b _ _ _ _ _ _ _ => b
  | _ => []
def defScope (s : Stmt) : Scope := match s with
  | .FunctionDef _ _ _ _ _ _ sc _ _ _ => sc
  | _ => { kind := .function, names := [], isGenerator := false, isCoroutine := false }

abbrev CX0 : CXT := fun _ _ _ _ _ _ => False
abbrev E0 : XK := fun _ _ _ => False
theorem pass0 {X : Cx} : Passes CX0 X E0 := fun _ _ _ _ _ _ _ h => h.elim

structure Fun (K : PySem.W.Frag) (x qual : Str) (st : Stmt) (f : Addr) (fd : FuncData) : Prop where
  ex : ∃ (oc : Value) (od : Option Addr) (kV doc pm : Value) (an : Option Addr) (cdv ct : Value) (osl : Array (Option Value)),
    fd = PySem.W.fnOf x qual (defArgs st) (defBody st) (defScope st) .none kV doc pm an cdv ct ∧ K.lookup f = some ⟨oc, od, .func fd, osl⟩ ∧ PySem.W.codeIn K cdv qual = true
  kp : PySem.W.keepIn K (.ref f) = true
section
variable {P : Program} {w : World} {K : PySem.W.Frag} {mg : Str → Option Value} {base : Heap}
theorem Fun.ok {x qual : Str} {st : Stmt} {f : Addr} {fd : FuncData} {N ps : List Str} {k : Nat} {sp : Sp} (F : Fun K x qual st f fd) (S : FnScope N ps (defScope st)) (len : ∀ vs H Q E, sp vs H Q E → vs.length = ps.length)
    (hbody : ∀ (cdv : Value) (A : Around) (outer : List Env) (s : Shared) (H : Hp) (vs : List V) (Q : VK) (E : XK), Room k (A.deeper (envOfC qual (defScope st) s.heap.objs.size f cdv)) → sp vs H Q E →
      ∃ t, PSs (cxOf CX0 P w K mg base N qual (defScope st) f cdv A outer s H E).nox (defBody st) t ∧ t { nx := fun _ H' => Q .non H', rt := Q } (start N vs) H) : FnOk P w K mg base CX0 (k + 1) f fd ps sp := by
  obtain ⟨oc, od, kV, doc, pm, an, cdv, ct, osl, rfl, lk, hcd⟩ := F.ex
  refine fn_of lk hcd S len fun A outer s H vs Q E hr hsp => ?_
  obtain ⟨t, h, q⟩ := hbody cdv A outer s H vs Q E hr hsp
  exact ⟨t, h.nox, q⟩
theorem Fun.binds {x qual : Str} {st : Stmt} {f : Addr} {fd : FuncData} {ps : List Str} (F : Fun K x qual st f fd)
    (h : ∀ (kV doc pm : Value) (an : Option Addr) (cdv ct : Value) (us : List Value), us.length = ps.length → bindArgs (PySem.W.fnOf x qual (defArgs st) (defBody st) (defScope st) .none kV doc pm an cdv ct) ⟨us, []⟩ = pure (ps.zip us)) : Binds K fd ps [] := by
  obtain ⟨oc, od, kV, doc, pm, an, cdv, ct, osl, rfl, lk, hcd⟩ := F.ex
  exact .all (h kV doc pm an cdv ct)
theorem fun_mk {x qual : Str} {st : Stmt} {f : Addr} {oc : Value} {od an : Option Addr} {osl : Array (Option Value)} {kV doc pm cdv ct : Value} (l : K.lookup f = some ⟨oc, od, .func (PySem.W.fnOf x qual (defArgs st) (defBody st) (defScope st) .none kV doc pm an cdv ct), osl⟩)
    (c : PySem.W.codeIn K cdv qual = true) (k : PySem.W.keepIn K (.ref f) = true) : Fun K x qual st f (PySem.W.fnOf x qual (defArgs st) (defBody st) (defScope st) .none kV doc pm an cdv ct) := ⟨⟨oc, od, kV, doc, pm, an, cdv, ct, osl, rfl, l, c⟩, k⟩
end
theorem small1000 {n : Nat} (h : n ≤ 1000) : n < sizeLine := Nat.lt_of_le_of_lt h (by decide)

section
variable {X : Cx}
theorem pv (i : Nat) {x : Str} {pos : Pos} (hN : X.N[i]? = some x := by rfl) (hv : Vis X.env.scope x := by first | exact Or.inl rfl | exact Or.inr (Or.inl rfl) | exact Or.inr (Or.inr rfl)) (hd : (x == ("__debug__" : Str)) = false := by decide)
    (hcd : (x == ("__classdict__" : Str)) = false := by decide) : PE X (.Name x pos) (tVar i) := pe_var hN hv hd hcd
end

theorem ite2 {c A B : Prop} [Decidable c] (h1 : c → A) (h2 : ¬ c → B) : if c then A else B := by
  by_cases h : c
  · rw [if_pos h]
    exact h1 h
  · rw [if_neg h]
    exact h2 h
def Same (H H' : Hp) : Prop := ∀ b o, H b = some o → H' b = some o
theorem Same.refl (H : Hp) : Same H H := fun _ _ h => h
theorem Same.trans {H H1 H2 : Hp} (a : Same H H1) (b : Same H1 H2) : Same H H2 := fun c o h => b c o (a c o h)
theorem Same.free {H H' : Hp} (e : Same H H') {l : Addr} (h : H' l = Option.none) : H l = Option.none := by
  cases q : H l with
  | none => rfl
  | some o =>
    rw [e l o q] at h
    cases h
theorem Same.seq {K : PySem.W.Frag} {H H' : Hp} {a : Addr} {xs : List V} (e : Same H H') (h : SqL K H a xs) : SqL K H' a xs := by
  rcases h with (h | ⟨o, h⟩) | h
  · exact .inl (.inl (e _ _ h))
  · exact .inl (.inr ⟨o, e _ _ h⟩)
  · exact .inr h

section
variable {κ : Type} [DecidableEq κ]
end
end L2
end
section
set_option Elab.async false
set_option linter.all false
set_option maxRecDepth 100000
namespace L2
open PySem PySem.Spec PyProof.Rows

def clOf (env : Env) : List (Str × NameKind) → List (Str × Addr)
  | [] => []
  | (n, k) :: r => clOf env r ++ (if k = .free then [(n, (env.cells.lookup n).getD 0)] else [])

theorem closure_is {env : Env} : ∀ (l : List (Str × NameKind)) (cs : List (Str × Addr)), (∀ y ∈ l, y.2 = .free → ∃ c, env.cells.lookup y.1 = some c) →
    (forIn l cs fun (x : Str × NameKind) (r : List (Str × Addr)) => if (x.2 == .free) = true then (do let c ← cellOf env x.1; pure (ForInStep.yield ((x.1, c) :: r)) : Sem (ForInStep (List (Str × Addr)))) else pure (ForInStep.yield r)) = pure (clOf env l ++ cs)
  | [], cs, _ => by simp [clOf]
  | (n, k) :: r, cs, h => by
    rw [List.forIn_cons]
    by_cases hk : k = .free
    · subst hk
      obtain ⟨c, hc⟩ := h (n, .free) (by simp) rfl
      have e : cellOf env n = pure c := by unfold cellOf; rw [hc]
      simp only [beq_self_eq_true, if_true, e, pure_bind]
      rw [closure_is r ((n, c) :: cs) fun y hy => h y (List.mem_cons_of_mem _ hy)]
      simp [clOf, hc]
    · have hb : (k == NameKind.free) = false := by simpa using hk
      simp only [hb, Bool.false_eq_true, if_false, pure_bind]
      rw [closure_is r cs fun y hy => h y (List.mem_cons_of_mem _ hy)]
      simp [clOf, hk]

theorem closureFor_is {env : Env} {scope : Scope} (h : ∀ y ∈ scope.names, y.2 = .free → ∃ c, env.cells.lookup y.1 = some c) : closureFor scope env = pure (clOf env scope.names) := by
  have e := closure_is (env := env) scope.names [] h
  rw [List.append_nil] at e
  unfold closureFor
  refine Eq.trans ?_ (congrArg (fun z => z >>= pure) e)
  rfl

theorem clOf_mem {env : Env} {x : Str} {c : Addr} : ∀ {l : List (Str × NameKind)}, (x, c) ∈ clOf env l → (x, NameKind.free) ∈ l ∧ c = (env.cells.lookup x).getD 0
  | [], h => by simp [clOf] at h
  | (n, k) :: r, h => by
    unfold clOf at h
    rcases List.mem_append.mp h with h | h
    · obtain ⟨h1, h2⟩ := clOf_mem h
      exact ⟨List.mem_cons_of_mem _ h1, h2⟩
    · by_cases hk : k = .free
      · rw [if_pos hk] at h
        have e := List.mem_singleton.mp h
        cases e
        subst hk
        exact ⟨by simp, rfl⟩
      · rw [if_neg hk] at h
        simp at h
theorem mem_clOf {env : Env} {x : Str} : ∀ {l : List (Str × NameKind)}, (x, NameKind.free) ∈ l → (x, (env.cells.lookup x).getD 0) ∈ clOf env l
  | [], h => by simp at h
  | (n, k) :: r, h => by
    unfold clOf
    rcases List.mem_cons.mp h with h | h
    · cases h
      exact List.mem_append_right _ (by simp)
    · exact List.mem_append_left _ (mem_clOf h)
theorem lookup_of_mem_fn {x : Str} {v : Addr} : ∀ {l : List (Str × Addr)}, (x, v) ∈ l → (∀ w, (x, w) ∈ l → w = v) → l.lookup x = some v
  | [], h, _ => by simp at h
  | (n, w) :: r, h, u => by
    rw [List.lookup_cons]
    by_cases e : x = n
    · subst e
      simp [u w (by simp)]
    · have hb : (x == n) = false := by simpa using e
      rw [hb]
      rcases List.mem_cons.mp h with h | h
      · cases h; exact absurd rfl e
      · exact lookup_of_mem_fn h fun w' hw => u w' (List.mem_cons_of_mem _ hw)
theorem clOf_lookup {env : Env} {x : Str} {l : List (Str × NameKind)} (h : (x, NameKind.free) ∈ l) : (clOf env l).lookup x = some ((env.cells.lookup x).getD 0) :=
  lookup_of_mem_fn (mem_clOf h) fun w hw => (clOf_mem hw).2

def blk (X : Cx) (scope : Scope) (N' : List Str) (s3 : Shared) (H3 : Hp) (C : Addr) (fp : List Addr) : Cx :=
  { X with N := N', s₀ := s3, H₀ := H3, env := compEnvC scope (clOf X.env scope.names) C X.env, outer := X.stack, stack := X.stack, ex := fp, fn := fun x => ((clOf X.env scope.names).lookup x).isNone, pn := [], xe := fun _ _ => False }

structure BlkN (X : Cx) (scope : Scope) (N' : List Str) (src : List (Option Nat)) : Prop where
  kind : scope.kind = .function
  nocell : (scope.names.all fun y => decide (y.2 ≠ .cell)) = true
  locs : (scope.names.all fun y => decide (y.2 = .local → scope.names.lookup y.1 = some .local)) = true
  frees : (scope.names.all fun y => decide (y.2 = .free → X.env.kindOf y.1 = some .cell ∨ X.env.kindOf y.1 = some .free)) = true
  slen : src.length = N'.length
  cap : ((N'.zip src).all fun p => match p.2 with | some j => decide (X.N[j]? = some p.1) && decide ((p.1, NameKind.free) ∈ scope.names) | none => true) = true

def sub (src : List (Option Nat)) (σ : St) : St := src.map fun o => o.bind fun j => (σ[j]?).join

theorem relabel_names {scope : Scope} {env : Env} {x : Str} {k : NameKind} (h : (relabel scope env).names.lookup x = some k) : (x, k) ∈ scope.names ∨ (k = .cell ∧ (x, NameKind.free) ∈ scope.names) := by
  have m := PySem.mem_of_lookup h
  obtain ⟨⟨n, k'⟩, hm, e⟩ := List.mem_map.mp m
  dsimp only at e
  split at e
  · rename_i hc
    cases e
    have : k' = .free := by
      simp only [Bool.and_eq_true, beq_iff_eq] at hc
      exact hc.1.1
    subst this
    exact .inr ⟨rfl, hm⟩
  · cases e
    exact .inl hm
theorem relabel_free {env : Env} {x : Str} : ∀ {names : List (Str × NameKind)}, (x, NameKind.free) ∈ names → (∀ k, (x, k) ∈ names → k ≠ .local ∧ k ≠ .globalExplicit ∧ k ≠ .globalImplicit ∧ k ≠ .cell) →
    let q := (names.map fun (n, k) => if (k == NameKind.free && env.scope.kind == .function && env.kindOf n == some .cell) then (n, NameKind.cell) else (n, k)).lookup x
    q = some .cell ∨ q = some .free
  | [], h, _ => by simp at h
  | (n, k) :: r, h, u => by
    intro q
    show List.lookup x ((if (k == NameKind.free && env.scope.kind == .function && env.kindOf n == some .cell) = true then (n, NameKind.cell) else (n, k)) :: _) = _ ∨ List.lookup x ((if (k == NameKind.free && env.scope.kind == .function && env.kindOf n == some .cell) = true then (n, NameKind.cell) else (n, k)) :: _) = _
    by_cases e : x = n
    · subst e
      obtain ⟨u1, u2, u3, u4⟩ := u k (by simp)
      have hk : k = .free := by cases k <;> simp_all
      subst hk
      by_cases hc : (NameKind.free == NameKind.free && env.scope.kind == .function && env.kindOf x == some .cell) = true
      · rw [if_pos hc]; left; simp [List.lookup_cons]
      · rw [if_neg hc]; right; simp [List.lookup_cons]
    · have hb : (x == n) = false := by simpa using e
      have ih := relabel_free (env := env) (names := r) (x := x) ((List.mem_cons.mp h).resolve_left fun z => e (by cases z; rfl)) fun k' hk' => u k' (List.mem_cons_of_mem _ hk')
      split
      · simp only [List.lookup_cons, hb]; exact ih
      · simp only [List.lookup_cons, hb]; exact ih

section
variable {X : Cx} {scope : Scope} {N' : List Str} {src : List (Option Nat)} {pins : List (Addr × Obj)} {σ : St} {H3 : Hp} {s3 s4 : Shared} {C : Addr} {fp : List Addr}

theorem BlkN.cells (B : BlkN X scope N' src) (ok : X.Ok) {x : Str} (h : (x, NameKind.free) ∈ scope.names) : ∃ c, X.env.cells.lookup x = some c ∧ (clOf X.env scope.names).lookup x = some c := by
  have q := of_decide_eq_true (List.all_eq_true.mp B.frees (x, .free) h)
  obtain ⟨c, hc⟩ := ok.has x (q rfl)
  exact ⟨c, hc, by rw [clOf_lookup h, hc]; rfl⟩
theorem BlkN.back (B : BlkN X scope N' src) (ok : X.Ok) {x : Str} {c : Addr} (h : (clOf X.env scope.names).lookup x = some c) : X.env.cells.lookup x = some c ∧ (x, NameKind.free) ∈ scope.names := by
  obtain ⟨h1, h2⟩ := clOf_mem (PySem.mem_of_lookup h)
  obtain ⟨c', e1, e2⟩ := B.cells ok h1
  rw [h] at e2
  cases e2
  exact ⟨e1, h1⟩
theorem BlkN.captured (B : BlkN X scope N' src) {i j : Nat} {x : Str} (h1 : N'[i]? = some x) (h2 : src[i]? = some (some j)) : X.N[j]? = some x ∧ (x, NameKind.free) ∈ scope.names := by
  have hz : (N'.zip src)[i]? = some (x, some j) := by
    rw [List.getElem?_zip_eq_some]
    exact ⟨h1, h2⟩
  have q := List.all_eq_true.mp B.cap (x, some j) (List.mem_of_getElem? hz)
  have q' : (decide (X.N[j]? = some x) && decide ((x, NameKind.free) ∈ scope.names)) = true := q
  rw [Bool.and_eq_true] at q'
  exact ⟨of_decide_eq_true q'.1, of_decide_eq_true q'.2⟩

theorem blk_start (B : BlkN X scope N' src) (I : Inv X pins σ H3 s3) (hf : ∀ b ∈ fp, FpOk X pins H3 b) (hlt : ∀ b ∈ fp, b < s3.heap.objs.size) (hnl : ∀ x k, (x, k) ∈ scope.names → k = .free → ∀ k', (x, k') ∈ scope.names → k' = .free)
    (hC : C = s3.heap.objs.size) (hn : s4.heap.Ns C (fun _ => none)) (hk : ∀ b o, s3.heap.get? b = some o → s4.heap.get? b = some o) (ho : s4.os = s3.os) (hg : s4.gens = s3.gens) :
    Inv (blk X scope N' s3 H3 C fp) [] (sub src σ) H3 s4 := by
  subst hC
  have ok := I.ok
  refine ⟨⟨ok.mod, B.kind, ok.glob, ok.blt, Nat.le_refl _, fun x y c h1 h2 => ?_, fun x h => ?_, fun x c h1 h2 => ?_, ok.hd, ok.frames, .inl rfl, fun b hb => ⟨Nat.ne_of_lt (hlt b hb), fun x c h => ?_⟩, I.bs, Nat.le_trans ok.bsz I.sz, fun b o e hb => ?_, fun b hb hs => ?_, I.stack, I.stkFree⟩,
    ho, ?_, Un.kept hk, ⟨_, hn, fun i x v h1 h2 h3 => ?_⟩, fun x c h => ?_, I.hok.fresh (Nat.le_refl _), fun x c h => I.freeC x c (B.back ok h).1, fun p hp => absurd (show p ∈ ([] : List (Addr × Obj)) from hp) (by simp), I.hok.kept hk, ?_⟩
  · exact ok.inj x y c (B.back ok h1).1 (B.back ok h2).1
  · have h : (relabel scope X.env).names.lookup x = some .cell ∨ (relabel scope X.env).names.lookup x = some .free := h
    have hm : (x, NameKind.free) ∈ scope.names := by
      rcases h with h | h
      · rcases relabel_names h with q | ⟨_, q⟩
        · exact absurd rfl (of_decide_eq_true (List.all_eq_true.mp B.nocell _ q))
        · exact q
      · rcases relabel_names h with q | ⟨z, _⟩
        · exact q
        · cases z
    obtain ⟨c, _, e⟩ := B.cells ok hm
    exact ⟨c, e⟩
  · have h1 : ((clOf X.env scope.names).lookup x).isNone = true := h1
    have h2 : (clOf X.env scope.names).lookup x = some c := h2
    rw [h2] at h1
    simp at h1
  · exact (hf b hb).2.2.2.2.1 x c (B.back ok h).1
  · rcases (hf b hb).2.2.2.1 with z | z
    · exact ok.noex b o e z
    · exact absurd (Nat.lt_of_lt_of_le (Heap.lt_size e) (Nat.le_trans ok.bsz z)) (Nat.lt_irrefl _)
  · rcases List.mem_cons.mp (I.stkSub b hs) with z | z
    · exact (hf b hb).2.1 z
    · exact (hf b hb).2.2.1 z
  · rw [hg]; exact I.bare
  · have hs2 : ∃ j, src[i]? = some (some j) ∧ σ[j]? = some (some v) := by
      have h2 : (src.map fun o => o.bind fun j => (σ[j]?).join)[i]? = some (some v) := h2
      rw [List.getElem?_map] at h2
      cases e : src[i]? with
      | none => rw [e] at h2; cases h2
      | some o =>
        rw [e] at h2
        cases o with
        | none => cases h2
        | some j =>
          refine ⟨j, rfl, ?_⟩
          have h2 : some ((σ[j]?).join) = some (some v) := h2
          cases e2 : σ[j]? with
          | none => rw [e2] at h2; cases h2
          | some z => rw [e2] at h2; cases z with
            | none => cases h2
            | some z => cases h2; rfl
    obtain ⟨j, hj, hv⟩ := hs2
    obtain ⟨hN, hm⟩ := B.captured h1 hj
    obtain ⟨c, hc, hcl⟩ := B.cells ok hm
    have kk := of_decide_eq_true (List.all_eq_true.mp B.frees _ hm) rfl
    obtain ⟨m, _, hl⟩ := I.loc
    have hvis : Vis X.env.scope x := by
      rcases kk with z | z
      · exact .inr (.inl z)
      · exact .inr (.inr z)
    obtain ⟨u, ru, lk⟩ := hl j x v hN hv hvis
    refine ⟨u, ru, .inr ⟨?_, c, hcl, ?_⟩⟩
    · exact relabel_free hm fun k hk' => by
        have := hnl x .free hm rfl k hk'
        subst this
        exact ⟨by decide, by decide, by decide, by decide⟩
    · rcases lk with ⟨z, _⟩ | ⟨_, c', e', ⟨o, eo, ed⟩⟩
      · rcases kk with y | y <;> (rw [z] at y; cases y)
      · rw [hc] at e'; cases e'
        exact ⟨o, hk _ _ eo, ed⟩
  · obtain ⟨v, o, e, d⟩ := I.cell x c (B.back ok h).1
    exact ⟨v, o, hk _ _ e, d⟩
  · show (sub src σ).length = N'.length
    unfold sub
    rw [List.length_map]
    exact B.slen
end
end L2
end
section
set_option Elab.async false
set_option linter.all false
set_option maxRecDepth 100000
namespace L2
open PySem PySem.Spec PyProof.Rows

theorem compLoop_gen {prog : Program} {w : World} {A : Around} {R : Result → Shared → Prop} {s : Shared} {elt target iter : Expr} {ifs : List Expr} {scope : Scope} {pos : Pos} {it acc : Value} {env : Env} (I : Nat → Shared → Prop)
    (turn : ∀ n s, I n s → wpAny (model prog w) A (pyNext it) (fun r s₁ => match r with
      | none => R (.ok .next) s₁
      | some v => wpAny (model prog w) A (letOwnedTupleGo target it v) (fun _ s₁ => wpAny (model prog w) A (assign target env v) (fun _ s₂ =>
          wpAny (model prog w) A (forIn ifs true fun c r => if r = true then do let ok ← isTrue c env (eval c env); pure (ForInStep.yield ok) else pure (ForInStep.yield r)) (fun ok s₃ =>
            if ok = true then wpAny (model prog w) A (eval elt env) (fun x s₄ =>
              wpAny (model prog w) A (call (.builtin "list.append") [acc, x]) (fun _ s₅ => ∃ m, m < n ∧ I m s₅) (fun _ _ => False) s₄) (fun _ _ => False) s₃
            else ∃ m, m < n ∧ I m s₃) (fun _ _ => False) s₂) (fun _ _ => False) s₁) (fun _ _ => False) s₁) (fun _ _ => False) s)
    (n : Nat) (h : I n s) :
    codeAny (model prog w) A (.compLoop (.ListComp elt [⟨target, iter, ifs, 0⟩] scope pos) 0 it acc env) R s := by
  refine codeAny_loop rfl I (fun n s hI => ?_) n h
  show wpAny _ A ((compTurn (.ListComp elt [⟨target, iter, ifs, 0⟩] scope pos) 0 it acc env).onRaise (fun x => do noteFrame x env; theTreesLotGoes x)) _ _ s
  refine wpAny_noted ?_
  rw [compTurn_list]
  refine wpAny_bind (wpAny_standAt (wpAny_bind (wpAny_mono (turn n s hI) (fun r s₁ h₁ => ?_) fun _ _ h' => h'.elim)))
  cases r with
  | none => exact wpAny_pure h₁
  | some v =>
    refine wpAny_bind (wpAny_mono h₁ (fun _ s₁ h₁ => ?_) fun _ _ h' => h'.elim)
    refine wpAny_bind (wpAny_mono h₁ (fun _ s₂ h₂ => wpAny_bind (wpAny_mono h₂ (fun ok s₃ h₃ => ?_) fun _ _ h' => h'.elim)) fun _ _ h' => h'.elim)
    cases ok with
    | false => exact wpAny_pure ⟨rfl, h₃⟩
    | true =>
      exact wpAny_bind (wpAny_bind (wpAny_mono h₃ (fun x s₄ h₄ => wpAny_bind (wpAny_mono h₄ (fun _ s₅ h₅ => wpAny_pure (wpAny_pure ⟨rfl, h₅⟩)) fun _ _ h' => h'.elim)) fun _ _ h' => h'.elim))

def PTs (X : Cx) (ifs : List Expr) (t : TT) : Prop :=
  ∀ (pins : List (Addr × Obj)) (s : Shared) (σ : St) (H : Hp) (Q : Bool → Hp → Prop), Inv X pins σ H s → t σ H Q →
    wpAny (model X.prog X.w) X.A (forIn ifs true fun c r => if r = true then do let ok ← isTrue c X.env (eval c X.env); pure (ForInStep.yield ok) else pure (ForInStep.yield r)) (TP X pins σ Q) X.xe s
def tAll : TT := fun _ H Q => Q true H
theorem pts_nil {X : Cx} : PTs X [] tAll := fun _ _ _ H _ I h => wpAny_tests_nil ⟨H, I, h⟩
theorem pts_one {X : Cx} {c : Expr} {t : TT} (h : PT X c t) : PTs X [c] t := fun pins s σ H Q I q => wpAny_tests_one (h pins s σ H Q I q)

def CompW (J : It) (g : TG) (tt : TT) (te : TE) (D : Addr) (σ0 : St) (H0 : Hp) (Q : Hp → Prop) : Prop :=
  ∃ W : Nat → Nat → St → Hp → Prop, (∃ m, W 0 m σ0 H0) ∧ ∀ i m σ H, W i m σ H →
  (J.stop i H ∧ Q H) ∨ (J.go i H ∧ ∃ N : St → Hp → Prop, (∀ σ' H', N σ' H' → ∃ m', m' < m ∧ W (i + 1) m' σ' H') ∧ ∀ x H', J.yld i H x H' → g x σ H' fun σ2 H2 => tt σ2 H2 fun b H3 =>
    if b = true then te σ2 H3 fun v H4 => ∃ xs, H4 D = some (.lst xs) ∧ xs.length < sizeLine ∧ N σ2 (upd H4 D (.lst (xs ++ [v]))) else N σ2 H3)

section
variable {X : Cx} {scope : Scope} {N' : List Str} {src : List (Option Nat)} {pins : List (Addr × Obj)} {σ : St} {H2 : Hp} {s2 : Shared}

theorem comp_block {elt tg iter : Expr} {ifs : List Expr} {pos : Pos} {it : Addr} {fp : List Addr} {tn : Nat → Heap → Prop} {J : It} {g : TG} {tt : TT} {te : TE} {Q : Addr → Hp → Prop}
    {RR : Value → Addr → Result → Shared → Prop} {E : Value → Shared → Prop} (hc : X.calm = true)
    (B : BlkN X scope N' src) (hnl : ∀ x k, (x, k) ∈ scope.names → k = .free → ∀ k', (x, k') ∈ scope.names → k' = .free) (T : Turn X.prog X.w X.K tg J fp it tn) (I : Inv X pins σ H2 s2) (h0 : tn 0 s2.heap) (hf : ∀ b ∈ fp, FpOk X pins H2 b)
    (hg : ∀ s3 H3 C, PG (blk X scope N' s3 H3 C fp) tg g) (ht : ∀ s3 H3 C, PTs (blk X scope N' s3 H3 C fp) ifs tt) (he : ∀ s3 H3 C, PE (blk X scope N' s3 H3 C fp) elt te)
    (hw : ∀ D, H2 D = none → CompW J g tt te D (sub src σ) (upd H2 D (.lst [])) (Q D))
    (hQ : ∀ D C H' s', C ≠ D → (∃ m, s'.heap.Ns C m) → (∀ h'' , Heap.SameBut C s'.heap h'' → Inv X pins σ H' { s' with heap := h'' }) → Inv X pins σ H' s' → H' C = none → C ≠ X.env.locals → (∀ x c, X.env.cells.lookup x = some c → c ≠ C) → X.s₀.heap.objs.size ≤ C → (∀ p ∈ X.pn ++ pins, p.1 ≠ C) → Q D H' → RR (.ref D) C (.ok .next) s') :
    wpAny (model X.prog X.w) X.A (newList []) (fun acc s₃ => wpAny (model X.prog X.w) X.A (newFunctionEnv scope X.env.globals (clOf X.env scope.names) [] X.env.qual none .none (some X.env)) (fun cenv s₄ =>
      codeAny (model X.prog X.w) X.A (.compStart (.ListComp elt [⟨tg, iter, ifs, 0⟩] scope pos) 0 (.ref it) acc { cenv with scope := relabel scope X.env }) (RR acc cenv.locals) s₄) E s₃) E s2 := by
  have hcell : ∀ y ∈ scope.names, y.2 ≠ .cell := fun y hy => of_decide_eq_true (List.all_eq_true.mp B.nocell y hy)
  refine wpAny_newObj_type (wpAny_newFunctionEnv hcell (by intro y hy; simp at hy) (fun h₁ hns₁ hsb₁ => ?_) B.kind)
  dsimp only at hns₁ hsb₁ ⊢
  -- the list
  have hDn : H2 s2.heap.objs.size = none := I.hok.fresh (Nat.le_refl _)
  have I3 : Inv X pins σ (upd H2 s2.heap.objs.size (.lst [])) { s2 with heap := s2.heap.push { cls := .type "list", dict := none, data := .seq ([] : List Value).toArray } } :=
    I.laid (t' := s2.toks) (fun b o e => Heap.get?_push_of_some _ e) (Nat.le_refl _) ⟨Nat.zero_le _, [], _, .nil, Heap.get?_push_size _ rfl⟩
  generalize hH3 : (s2.heap.push { cls := .type "list", dict := none, data := .seq ([] : List Value).toArray }) = hp3 at hns₁ hsb₁ I3 ⊢
  have hsz3 : hp3.objs.size = s2.heap.objs.size + 1 := by rw [← hH3, Heap.size_push]
  have keep23 : ∀ b o, s2.heap.get? b = some o → hp3.get? b = some o := fun b o e => by rw [← hH3]; exact Heap.get?_push_of_some _ e
  have keep34 : ∀ b o, hp3.get? b = some o → h₁.get? b = some o := fun b o e => hsb₁.extBut b o (Nat.ne_of_lt (Heap.lt_size e)) (Heap.get?_push_of_some _ e)
  have hDlt : s2.heap.objs.size < hp3.objs.size := by rw [hsz3]; exact Nat.lt_succ_self _
  have hf3 : ∀ b ∈ fp, FpOk X pins (upd H2 s2.heap.objs.size (.lst [])) b := fun b hb => by
    obtain ⟨o, e, _⟩ := T.obj _ _ h0 b hb
    refine ⟨?_, (hf b hb).2⟩
    rw [upd_ne (Nat.ne_of_lt (Heap.lt_size e))]
    exact (hf b hb).1
  have hlt3 : ∀ b ∈ fp, b < hp3.objs.size := fun b hb => by
    obtain ⟨o, e, _⟩ := T.obj _ _ h0 b hb
    exact Nat.lt_trans (Heap.lt_size e) hDlt
  have hIb := blk_start (fp := fp) (C := hp3.objs.size) (s4 := { s2 with heap := h₁, toks := s2.toks + ([] : List (Str × Value)).length }) B I3 hf3 hlt3 hnl rfl hns₁ keep34 rfl rfl
  have h04 : tn 0 h₁ := T.keep _ _ _ h0 fun b hb o e => keep34 b o (keep23 b o e)
  obtain ⟨W, ⟨m0, w0⟩, turn⟩ := hw s2.heap.objs.size hDn
  -- the loop
  have frB : ∀ {H' : Hp}, (∀ b ∈ fp, H' b = none) → ∀ b ∈ fp, FpOk (blk X scope N' { s2 with heap := hp3 } (upd H2 s2.heap.objs.size (.lst [])) hp3.objs.size fp) [] H' b := fun hn b hb => by
    refine ⟨hn b hb, Nat.ne_of_lt (hlt3 b hb), ?_, .inl hb, fun x c h => (hf b hb).2.2.2.2.1 x c (B.back I.ok h).1, fun p hp => absurd (show p ∈ ([] : List (Addr × Obj)) from hp) (by simp)⟩
    intro z
    rcases List.mem_cons.mp (I3.stkSub b z) with y | y
    · exact (hf b hb).2.1 y
    · exact (hf b hb).2.2.1 y
  have fin : ∀ (s' : Shared) (σ' : St) (H' : Hp), Inv (blk X scope N' { s2 with heap := hp3 } (upd H2 s2.heap.objs.size (.lst [])) hp3.objs.size fp) [] σ' H' s' → Q s2.heap.objs.size H' → RR (.ref s2.heap.objs.size) hp3.objs.size (.ok .next) s' := fun s' σ' H' J' q => by
    obtain ⟨hh, gg, dd, tt', os'⟩ := s'
    have eos : os' = s2.os := J'.os
    subst eos
    have IX : Inv X pins σ H' { ({ s2 with heap := hp3 } : Shared) with heap := hh, gens := gg, drawn := dd, toks := tt' } := Inv.call (s := { s2 with heap := hp3 }) I3 (h' := hh) (g' := gg) (d' := dd) (t' := tt') (ch := fp) J'.base J'.hok J'.bare fun b hb => ⟨(hf b hb).2.2.2.1, (hf b hb).2.1, (hf b hb).2.2.2.2.1, (hf b hb).2.2.2.2.2⟩
    have hCs : s2.heap.objs.size ≤ hp3.objs.size := Nat.le_of_lt hDlt
    have hCL : hp3.objs.size ≠ X.env.locals := Nat.ne_of_gt I3.lt
    have hCc : ∀ x c, X.env.cells.lookup x = some c → c ≠ hp3.objs.size := fun x c e z => by
      obtain ⟨v, q⟩ := I3.cell x c e
      exact absurd (show c < hp3.objs.size from q.lt) (by rw [z]; exact Nat.lt_irrefl _)
    have hCp : ∀ p ∈ X.pn ++ pins, p.1 ≠ hp3.objs.size := fun p hp z => by
      have := Heap.lt_size (I3.pin p hp).1
      exact absurd (show p.1 < hp3.objs.size from this) (by rw [z]; exact Nat.lt_irrefl _)
    have hCh : H' hp3.objs.size = none := J'.free
    obtain ⟨m, hm, _⟩ := J'.loc
    refine hQ _ _ H' _ (Nat.ne_of_gt hDlt) ⟨m, hm⟩ (fun h'' sb => ?_) IX hCh hCL hCc (Nat.le_trans I3.sz (Nat.le_refl _)) hCp q
    exact IX.turned (t' := tt') (fun b o hb e => (sb.2 b hb).trans e) hCh hCL (.inr (Nat.le_trans I3.sz (Nat.le_refl _))) hCc hCp
  have loop : ∀ s₃ : Shared, s₃ = { s2 with heap := h₁, toks := s2.toks + ([] : List (Str × Value)).length } →
      codeAny (model X.prog X.w) X.A (.compLoop (.ListComp elt [⟨tg, iter, ifs, 0⟩] scope pos) 0 (.ref it) (.ref s2.heap.objs.size) (compEnvC scope (clOf X.env scope.names) hp3.objs.size X.env))
        (RR (.ref s2.heap.objs.size) hp3.objs.size) s₃ := by
    rintro s₃ rfl
    refine compLoop_gen (fun n s' => ∃ i σ' H', Inv (blk X scope N' { s2 with heap := hp3 } (upd H2 s2.heap.objs.size (.lst [])) hp3.objs.size fp) [] σ' H' s' ∧ tn i s'.heap ∧ (∀ b ∈ fp, H' b = none) ∧ W i n σ' H') ?_ m0 ⟨0, _, _, hIb, h04, fun b hb => (hf3 b hb).1, w0⟩
    rintro n s5 ⟨i, σ5, H5, I5, st5, fr5, w5⟩
    rcases turn i n σ5 H5 w5 with ⟨stop, qn⟩ | ⟨go, Nx, hN, step⟩
    · refine thn (T.done (blk X scope N' { s2 with heap := hp3 } (upd H2 s2.heap.objs.size (.lst [])) hp3.objs.size fp) rfl rfl rfl hc i [] s5 σ5 H5 _ I5 (frB fr5) st5 stop) fun r s6 ⟨hr, I6⟩ => ?_
      subst hr
      exact fin s6 σ5 H5 I6 qn
    · refine thn (T.item (blk X scope N' { s2 with heap := hp3 } (upd H2 s2.heap.objs.size (.lst [])) hp3.objs.size fp) rfl rfl rfl hc i [] s5 σ5 H5 _ I5 (frB fr5) st5 go) fun r s6 ⟨u, hr, h6⟩ => ?_
      subst hr
      refine thn h6 fun _ s7 ⟨x, H7, I7, r7, y7, st7, fr7⟩ => ?_
      have I7' := I7.pinned (frB fr7) (T.obj _ _ st7)
      refine thn (hg _ _ _ _ s7 σ5 H7 x u _ I7' r7 (step x H7 y7)) fun _ s8 ⟨σ8, H8, I8, q8⟩ => ?_
      refine thn (ht _ _ _ _ s8 σ8 H8 _ I8 q8) fun ok s9 ⟨H9, I9, q9⟩ => ?_
      have again : ∀ {σa : St} {Ha : Hp} {sa : Shared}, Inv (blk X scope N' { s2 with heap := hp3 } (upd H2 s2.heap.objs.size (.lst [])) hp3.objs.size fp) ([] ++ pinsAt fp s7.heap) σa Ha sa → Nx σa Ha →
          ∃ m, m < n ∧ ∃ i σ' H', Inv (blk X scope N' { s2 with heap := hp3 } (upd H2 s2.heap.objs.size (.lst [])) hp3.objs.size fp) [] σ' H' sa ∧ tn i sa.heap ∧ (∀ b ∈ fp, H' b = none) ∧ W i m σ' H' := fun {σa Ha sa} Ia na => by
        obtain ⟨m', hm, wa⟩ := hN σa Ha na
        refine ⟨m', hm, i + 1, σa, Ha, Ia.unpinned, T.keep _ _ _ st7 fun b hb o e => (Ia.pin (b, o) (List.mem_append_right _ (List.mem_append_right _ (mem_pinsAt hb e)))).1, fun b hb => ?_, wa⟩
        obtain ⟨o, e, d⟩ := T.obj _ _ st7 b hb
        exact (Ia.pin (b, o) (List.mem_append_right _ (List.mem_append_right _ (mem_pinsAt hb e)))).2.1
      cases ok with
      | false => exact again I9 q9
      | true =>
        refine thn (he _ _ _ _ s9 σ8 H9 _ I9 q9) fun y s10 ⟨v, H10, I10, r10, xs, hx, hl, q10⟩ => ?_
        refine thn (mt_append (X := blk X scope N' { s2 with heap := hp3 } (upd H2 s2.heap.objs.size (.lst [])) hp3.objs.size fp) _ s10 σ8 H10 (.ref s2.heap.objs.size) [v] (.ref s2.heap.objs.size) [y] (fun _ H' => Nx σ8 H') I10 rfl (.cons r10 .nil) ⟨_, xs, v, rfl, rfl, hx, hl, q10⟩) fun _ s11 ⟨_, H11, I11, _, q11⟩ => ?_
        exact again I11 q11
  exact codeAny_compStart_list (loop _ rfl) (T.self _ 0 _ _ _ h04 (loop _ rfl))


def tComp (wi : TI) (src : List (Option Nat)) (g : TG) (tt : TT) (te : TE) : TE := fun σ H Q => wi σ H fun J H2 => ∀ D, H2 D = none → CompW J g tt te D (sub src σ) (upd H2 D (.lst [])) fun H' => Q (.ref D) H'

theorem pe_comp {elt tg iter : Expr} {ifs : List Expr} {pos : Pos} {wi : TI} {g : TG} {tt : TT} {te : TE} (hc : X.calm = true) (B : BlkN X scope N' src) (hi : PI X tg iter wi)
    (hg : ∀ s3 H3 C fp, PG (blk X scope N' s3 H3 C fp) tg g) (ht : ∀ s3 H3 C fp, PTs (blk X scope N' s3 H3 C fp) ifs tt) (he : ∀ s3 H3 C fp, PE (blk X scope N' s3 H3 C fp) elt te)
    (hnl : (scope.names.all fun y => decide (y.2 = .free → ∀ z ∈ scope.names, z.1 = y.1 → z.2 = .free)) = true := by decide +kernel)
    (hs : ∀ x, foldedSetIterable iter X.env x = pure x := by intro _; rfl) :
    PE X (.ListComp elt [⟨tg, iter, ifs, 0⟩] scope pos) (tComp wi src g tt te) := by
  intro pins s σ H Q I h
  have hnl' : ∀ x k, (x, k) ∈ scope.names → k = .free → ∀ k', (x, k') ∈ scope.names → k' = .free := fun x k hm hk k' hm' => of_decide_eq_true (List.all_eq_true.mp hnl (x, k) hm) hk (x, k') hm' rfl
  have hclos : closureFor scope X.env = pure (clOf X.env scope.names) := closureFor_is fun y hy hf => I.ok.has y.1 (of_decide_eq_true (List.all_eq_true.mp B.frees y hy) hf)
  have hnames : ∀ y ∈ scope.names, y.2 = .local → scope.names.lookup y.1 = some .local := fun y hy => of_decide_eq_true (List.all_eq_true.mp B.locs y hy)
  rw [eval_ListComp]
  refine wpAny_comprehension_free (use := none) rfl hs hclos B.kind hnames (thn (hi pins s σ H _ I h) fun xv s₁ h₁ => thn h₁ fun itv s2 h2 => ?_)
  obtain ⟨it, fp, tn, J, H2, rfl, I2, T, h0, hf, hw⟩ := h2
  refine comp_block (RR := fun acc C => compPost (model X.prog X.w) X.A X.xe none (EP X pins σ Q) acc C) (Q := fun D H' => Q (.ref D) H') hc B hnl' T I2 h0 hf (fun a b c => hg a b c fp) (fun a b c => ht a b c fp) (fun a b c => he a b c fp) hw ?_
  intro D C H' s' hCD hm hsb IX hCh hCL hCc hCs hCp q
  obtain ⟨m, hm⟩ := hm
  exact ⟨m, hm, fun h'' sb => ⟨.ref D, H', hsb h'' sb, rfl, q⟩⟩

theorem ps_setComp {elt tg iter : Expr} {ifs : List Expr} {pos spos py : Pos} {wi : TI} {g : TG} {tt : TT} {te : TE} {i : Nat} {y : Str} (hc : X.calm = true) (hN : X.N.Nodup) (hi' : X.N[i]? = some y) (hy : X.env.scope.names.lookup y = some .local) (B : BlkN X scope N' src) (hi : PI X tg iter wi)
    (hg : ∀ s3 H3 C fp, PG (blk X scope N' s3 H3 C fp) tg g) (ht : ∀ s3 H3 C fp, PTs (blk X scope N' s3 H3 C fp) ifs tt) (he : ∀ s3 H3 C fp, PE (blk X scope N' s3 H3 C fp) elt te)
    (hsw : swapsWith (.ListComp elt [⟨tg, iter, ifs, 0⟩] scope pos) (some (.Name y py)) spos.line X.env = pure true := by rfl)
    (hnl : (scope.names.all fun y => decide (y.2 = .free → ∀ z ∈ scope.names, z.1 = y.1 → z.2 = .free)) = true := by decide +kernel)
    (hs : ∀ x, foldedSetIterable iter X.env x = pure x := by intro _; rfl) :
    PS X (.Assign [.Name y py] (.ListComp elt [⟨tg, iter, ifs, 0⟩] scope pos) spos) (tAsg (tComp wi src g tt te) (gName i)) := by
  intro pins s σ H D I h
  have hnl' : ∀ x k, (x, k) ∈ scope.names → k = .free → ∀ k', (x, k') ∈ scope.names → k' = .free := fun x k hm hk k' hm' => of_decide_eq_true (List.all_eq_true.mp hnl (x, k) hm) hk (x, k') hm' rfl
  have hclos : closureFor scope X.env = pure (clOf X.env scope.names) := closureFor_is fun y hy hf => I.ok.has y.1 (of_decide_eq_true (List.all_eq_true.mp B.frees y hy) hf)
  have hnames : ∀ y ∈ scope.names, y.2 = .local → scope.names.lookup y.1 = some .local := fun y hy => of_decide_eq_true (List.all_eq_true.mp B.locs y hy)
  rw [exec_Assign_Name_used _ _ _ _ hsw]
  refine wpAny_bind (wpAny_standAt (wpAny_bind ?_))
  show wpAny _ X.A (do let _ ← comprehension (.ListComp elt [⟨tg, iter, ifs, 0⟩] scope pos) scope X.env _ (newList []) false (eval iter X.env) (some (assign (.Name y py) X.env))) _ _ s
  have h' : wi σ H fun J H2 => ∀ D', H2 D' = none → CompW J g tt te D' (sub src σ) (upd H2 D' (.lst [])) fun H' => D.nx (σ.set i (some (.ref D'))) H' := h
  refine wpAny_bind (wpAny_mono (wpAny_comprehension_free (use := some (assign (.Name y py) X.env)) (Q := fun _ s' => SP X pins D .next s') rfl hs hclos B.kind hnames
    (thn (hi pins s σ H _ I h') fun xv s₁ h₁ => thn h₁ fun itv s2 h2 => ?_)) (fun _ s' hq => wpAny_pure (wpAny_pure hq)) fun _ _ e => e)
  obtain ⟨it, fp, tn, J, H2, rfl, I2, T, h0, hf, hw⟩ := h2
  refine comp_block (RR := fun acc C => compPost (model X.prog X.w) X.A X.xe (some (assign (.Name y py) X.env)) (fun _ s' => SP X pins D .next s') acc C) (Q := fun D' H' => D.nx (σ.set i (some (.ref D'))) H') hc B hnl' T I2 h0 hf (fun a b c => hg a b c fp) (fun a b c => ht a b c fp) (fun a b c => he a b c fp) hw ?_
  intro D' C H' s' hCD hm hsb IX hCh hCL hCc hCs hCp q
  obtain ⟨m, hm⟩ := hm
  show wpAny _ X.A (assign (.Name y py) X.env (.ref D')) _ _ _
  refine wpAny_assign_Name ?_
  refine store_ok2 (v := .ref D') IX hN hi' (.inl hy) rfl (fun s'' I'' hsame => ?_) (.inr hy)
  obtain ⟨a, hs', ha⟩ := hsame
  have hCa : C ≠ a := by
    rintro rfl
    rcases ha with z | z
    · exact hCL z
    · exact hCc _ _ z rfl
  refine ⟨m, hm.sameBut hs' hCa, fun h'' sb => ⟨_, H', ?_, q⟩⟩
  exact I''.turned (t' := s''.toks) (fun b o hb e => (sb.2 b hb).trans e) hCh hCL (.inr hCs) hCc hCp
end
end L2
end
section
set_option Elab.async false
set_option linter.all false
set_option maxRecDepth 100000
namespace L2
open PySem PySem.Spec PyProof.Rows

section
variable {X : Cx} {pins : List (Addr × Obj)} {σ : St} {H : Hp} {s : Shared} {a : Addr} {o : Obj} {u : HO}
theorem hok_swap {P : Program} {w : World} {H : Hp} {h : Heap} {a : Addr} {u v : HO} (ok : HOk P w H h) (e : H a = some u) (nt : ∀ xs, u ≠ .tup xs) (no : ∀ y, u ≠ .own y) (new : ObjOk P w (upd H a v) h a v) : HOk P w (upd H a v) h := fun b z q => by
  by_cases hb : b = a
  · subst hb; rw [upd_same] at q; cases q; exact new
  · rw [upd_ne hb] at q
    refine (ok b z q).stay (fun c w' _ r => r) (fun c r => ?_) fun c xs r => ?_
    · rw [upd_ne]; exact r
      rintro rfl; rw [e] at r; cases r; exact no _ rfl
    · rw [upd_ne]; exact r
      rintro rfl; rw [e] at r; cases r; exact nt _ rfl
theorem Inv.swap {u v : HO} (I : Inv X pins σ H s) (e : H a = some u) (nt : ∀ xs, u ≠ .tup xs) (no : ∀ y, u ≠ .own y) (nb : ∀ ps, u ≠ .tbl ps) (hz : ∀ ob y, X.H₀ a ≠ some (.frz ob y)) (new : ObjOk X.prog X.w (upd H a v) s.heap a v) : Inv X pins σ (upd H a v) s := by
  have ne : ∀ b, H b = none → b ≠ a := fun b n z => by subst z; rw [e] at n; cases n
  refine ⟨I.ok, I.os, I.bare, ⟨I.base.keep, I.base.slot, fun b ob q n hx => ?_, I.base.there, fun b xs q => ?_, fun b ob y q => ?_, fun b ps q => ?_⟩, I.loc, I.cell, ?_, fun x c h => ?_, fun p hp => ?_, hok_swap I.hok e nt no new, I.len⟩
  · have := I.base.free b ob q n hx
    rw [upd_ne (ne b this)]; exact this
  · have := I.base.tups b xs q
    rw [upd_ne]; exact this
    rintro rfl; rw [e] at this; cases this; exact nt _ rfl
  · have := I.base.frzs b ob y q
    rw [upd_ne]; exact this
    rintro rfl; exact hz _ _ q
  · obtain ⟨m, this⟩ := I.base.tbls b ps q
    refine ⟨m, ?_⟩
    rw [upd_ne]; exact this
    rintro rfl; rw [e] at this; cases this; exact nb _ rfl
  · rw [upd_ne (ne _ I.free)]; exact I.free
  · rw [upd_ne (ne _ (I.freeC x c h))]; exact I.freeC x c h
  · obtain ⟨h1, h2, h3⟩ := I.pin p hp
    exact ⟨h1, by rw [upd_ne (ne _ h2)]; exact h2, h3⟩
theorem ObjOk.any {P : Program} {w : World} {H H' : Hp} {h : Heap} {a : Addr} {kvs : List (Key × V)} (x : ObjOk P w H h a (.dK kvs)) : ObjOk P w H' h a (.dK kvs) := x
end

theorem KV.get {kvs : List (Key × V)} {vs : List (Key × Value)} (r : KV kvs vs) : ∀ {i : Nat} {k : Key} {x : Value}, vs[i]? = some (k, x) → ∃ v, kvs[i]? = some (k, v) ∧ RelV v x := by
  unfold KV at r
  induction r with
  | nil => intro i k x h; simp at h
  | @cons p q ps qs h t ih =>
    intro i k x hx
    cases i with
    | zero =>
      simp at hx
      subst hx
      obtain ⟨p1, p2⟩ := p
      obtain ⟨h1, h2⟩ := h
      have h1 : p1 = k := h1
      subst h1
      exact ⟨p2, by simp, h2⟩
    | succ i => simpa using ih (by simpa using hx)

section
variable {X : Cx} {tg : Expr}
end

def Ite (K : PySem.W.Frag) (a : Addr) : It :=
  ⟨fun i H => ∃ xs x, SqL K H a xs ∧ xs[i]? = some x, fun i H x H' => ∃ p y, H p = none ∧ x = .ref p ∧ H' = upd H p (.tup [.int i, y]) ∧ ∀ xs, SqL K H a xs → xs[i]? = some y, fun i H => ∃ xs, SqL K H a xs ∧ xs.length ≤ i⟩
theorem turn_enum {P : Program} {w : World} {K : PySem.W.Frag} {es : List Expr} {k : Nat} {pos : Pos} (a e it : Addr) (hei : e ≠ it) : Turn P w K (.Tuple es k pos) (Ite K a) [e, it] e (fun i h => (∃ old, IsEnum h e it i old) ∧ h.IsListIter it a i) where
  mem := by simp
  obj := fun i h st b hb => by
    obtain ⟨⟨old, he⟩, hi⟩ := st
    rcases List.mem_cons.mp hb with rfl | hb
    · exact ⟨_, he, fun v z => by
        have z' : Data.fields _ = Data.cell v := z
        cases z'⟩
    · have e : b = it := by simpa using hb
      subst e
      obtain ⟨o, e, c, d⟩ := hi
      exact ⟨o, e, fun v z => by rw [d] at z; cases z⟩
  keep := fun i h h' st kp => by
    obtain ⟨⟨old, he⟩, hi⟩ := st
    exact ⟨⟨old, kp e (by simp) _ he⟩, hi.at fun o x => kp it (by simp) o x⟩
  item := by
    intro X hP hw hK hc i pins s σ H E I hf st hg
    subst hP hw hK
    obtain ⟨xs, x, hq, hx⟩ := hg
    obtain ⟨⟨old, he⟩, hit⟩ := st
    obtain ⟨its, rv, p, hz⟩ := I.list hq
    obtain ⟨u, hu, ru⟩ := rv.get hx
    obtain ⟨f0, f1, f2, f3, f4, f5⟩ := hf e (by simp)
    obtain ⟨g0, g1, g2, g3, g4, g5⟩ := hf it (by simp)
    have helt : e < s.heap.objs.size := Heap.lt_size he
    have hilt : it < s.heap.objs.size := by obtain ⟨_, x, _⟩ := hit; exact Heap.lt_size x
    refine wpAny_pyNext_enum_item he hit p.isList (x := u) (by simpa using hu) hei fun h' ho hit' hT hsz kk => ?_
    refine ⟨_, rfl, wpAny_letOwnedTupleGo_enum (s := { s with heap := h', toks := s.toks + 1 }) ho fun h'' he'' hs'' => ?_⟩
    have hTe : s.heap.objs.size ≠ e := Nat.ne_of_gt helt
    have hTi : s.heap.objs.size ≠ it := Nat.ne_of_gt hilt
    have hfree : H s.heap.objs.size = none := I.hok.fresh (Nat.le_refl _)
    have keep : ∀ b o, b ≠ e → b ≠ it → s.heap.get? b = some o → h''.get? b = some o := fun b o h1 h2 e => (hs''.2 b h1).trans (kk b o h1 h2 e)
    have nit : ∀ b u, H b = some u → b ≠ e ∧ b ≠ it := fun b u e' => ⟨fun z => (by rw [z, f0] at e'; cases e'), fun z => (by rw [z, g0] at e'; cases e')⟩
    have I0 : Inv X pins σ H { s with heap := h'', toks := s.toks + 1 } := by
      refine I.step (g' := s.gens) (d' := s.drawn) (ch := [e, it]) (fun b hb => ?_) (fun b o _ _ hc e _ => keep b o (fun z => hc (by simp [z])) (fun z => hc (by simp [z])) e) (fun b o _ _ hc e _ => ⟨o.slots, keep b o (fun z => hc (by simp [z])) (fun z => hc (by simp [z])) e⟩)
        (fun _ _ _ _ n => n) (fun b o hc e => ⟨o, keep b o (fun z => hc (by simp [z])) (fun z => hc (by simp [z])) e⟩) (fun _ _ e => e) (fun _ _ _ e => e) (fun b ps e => ⟨#[], by rw [e]; simp⟩) (fun m hm => ?_) (fun b u eq => ?_) I.bare
      · rcases List.mem_cons.mp hb with rfl | hb
        · exact ⟨f3, f1, f4, f5⟩
        · have e : b = it := by simpa using hb
          subst e
          exact ⟨g3, g1, g4, g5⟩
      · obtain ⟨o, es, ep, ho, r⟩ := hm
        exact ⟨o, es, ep, keep _ o (Ne.symm f1) (Ne.symm g1) ho, r⟩
      · refine (I.hok b u eq).stay (fun c v hc q => keep c v ?_ ?_ q) (fun _ q => q) fun _ _ q => q
        · rcases hc with z | z
          · rw [z]; exact (nit b u eq).1
          · exact (nit c _ z).1
        · rcases hc with z | z
          · rw [z]; exact (nit b u eq).2
          · exact (nit c _ z).2
    have hT2 : h''.get? s.heap.objs.size = some { cls := .type "tuple", data := .seq #[.int i s.toks, u] } := (hs''.2 _ hTe).trans hT
    have I1 : Inv X pins σ (upd H s.heap.objs.size (.tup [.int i, x])) { s with heap := h'', toks := s.toks + 1 } := by
      have base := I0.base
      have hok : HOk X.prog X.w (upd H s.heap.objs.size (.tup [.int i, x])) h'' := by
        intro b z q
        by_cases hb : b = s.heap.objs.size
        · subst hb; rw [upd_same] at q; cases q
          refine ⟨⟨by show 2 ≤ sizeLine; decide, _, hT2, rfl⟩, [.int i s.toks, u], .cons ⟨_, rfl⟩ (.cons ru .nil), _, hT2, rfl, _, rfl⟩
        · rw [upd_ne hb] at q
          refine (I0.hok b z q).stay (fun c w' _ r => r) (fun c r => ?_) fun c xs r => ?_
          · rw [upd_ne (ne_of_none r hfree)]; exact r
          · rw [upd_ne (ne_of_none r hfree)]; exact r
      have old : ∀ b o', X.s₀.heap.get? b = some o' → b ≠ s.heap.objs.size := fun b o' e => Nat.ne_of_lt (Nat.lt_of_lt_of_le (Heap.lt_size e) I.sz)
      refine ⟨I0.ok, I0.os, I0.bare, ⟨base.keep, base.slot, fun b ob q n hx => ?_, base.there, fun b ys q => ?_, fun b ob y q => ?_, fun b ps q => ?_⟩, I0.loc, I0.cell, ?_, fun y c h => ?_, fun p hp => ?_, hok, I0.len⟩
      · rw [upd_ne (old b ob q)]; exact base.free b ob q n hx
      · have := base.tups b ys q
        rw [upd_ne (ne_of_none this hfree)]; exact this
      · have := base.frzs b ob y q
        rw [upd_ne (ne_of_none this hfree)]; exact this
      · obtain ⟨m, this⟩ := base.tbls b ps q
        exact ⟨m, by rw [upd_ne (ne_of_none this hfree)]; exact this⟩
      · rw [upd_ne (Nat.ne_of_lt I.lt)]; exact I.free
      · obtain ⟨v, q⟩ := I.cell y c h
        rw [upd_ne (Nat.ne_of_lt q.lt)]; exact I.freeC y c h
      · obtain ⟨h1, h2, h3⟩ := I0.pin p hp
        have := Heap.lt_size (I.pin p hp).1
        exact ⟨h1, by rw [upd_ne (Nat.ne_of_lt this)]; exact h2, h3⟩
    have hit2 : h''.IsListIter it a (i + 1) := hit'.at fun o y => (hs''.2 it hei.symm).trans y
    have hen : IsEnum h'' e it ((i + 1 : Nat) : Int) u := by simpa using he''
    refine ⟨.ref s.heap.objs.size, _, I1, rfl, ⟨_, x, hfree, rfl, rfl, fun ys hy => by rw [I.list_inj hy hq]; exact hx⟩, ⟨⟨u, hen⟩, hit2⟩, fun b hb => ?_⟩
    rcases List.mem_cons.mp hb with rfl | hb
    · rw [upd_ne (Ne.symm hTe)]; exact f0
    · have e : b = it := by simpa using hb
      subst e
      rw [upd_ne (Ne.symm hTi)]; exact g0
  done := by
    intro X hP hw hK hc i pins s σ H E I hf st hg
    subst hP hw hK
    obtain ⟨xs, hq, hx⟩ := hg
    obtain ⟨⟨old, he⟩, hit⟩ := st
    obtain ⟨its, rv, p, hz⟩ := I.list hq
    obtain ⟨g0, g1, g2, g3, g4, g5⟩ := hf it (by simp)
    have hl := rv.length
    refine wpAny_pyNext_enum_end (I.ok.hd hc) he hit p.isList (Array.getElem?_eq_none (by simp; omega)) fun h' hx => ⟨rfl, I.turned (t' := s.toks) (fun b o hb e => hx b o hb e) g0 g1 g3 g4 g5⟩
  self := fun _ _ _ _ _ st h => by
    obtain ⟨⟨old, he⟩, _⟩ := st
    exact wpAny_pyIter_enum he h

def iEnum (K : PySem.W.Frag) (ta : TA) : TI := fun σ H R => ta σ H fun vs H1 => ∃ a xs, vs = [.ref a] ∧ SqL K H1 a xs ∧ R (Ite K a) H1
theorem boot_enumerate : bootBuiltins "enumerate" = some (.type "enumerate") := by first | exact PySem.boot_enumerate | rfl
theorem pi_enum {X : Cx} {es : List Expr} {k : Nat} {tpos : Pos} {a : Expr} {ta : TA} {p pos : Pos} (hg : Gl X "enumerate") (hm : X.mg "enumerate" = none) (ha : PA X [a] ta) (hs : starEach [a] X.env = [(false, eval a X.env)] := by rfl) : PI X (.Tuple es k tpos) (.Call (.Name "enumerate" p) [a] [] pos) (iEnum X.K ta) := by
  intro pins s σ H R I h
  refine Call_ (ld_blt I hg hm boot_enumerate (PyProof.Rows.callWith_type1 (thn (ha pos pins s σ H _ I h) fun us s1 ⟨vs, H1, I1, r1, q1⟩ => ?_) hs rfl))
  obtain ⟨l, xs, e, hq, q⟩ := q1
  subst e
  cases r1 with
  | cons r rr =>
    cases rr
    cases r
    obtain ⟨its, rv, pl, hz⟩ := I1.list hq
    refine call_enumerate_list pl.isList fun h' he hit hsz kk => ?_
    refine wpAny_pyIter_enum (s := { s1 with heap := h' }) he ?_
    have I2 : Inv X pins σ H1 { s1 with heap := h' } := I1.kept (t' := s1.toks) kk
    refine ⟨s1.heap.objs.size + 1, [s1.heap.objs.size + 1, s1.heap.objs.size], _, _, H1, rfl, I2, turn_enum l _ _ (Nat.succ_ne_self _), ⟨⟨_, he⟩, hit⟩, fun b hb => ?_, q⟩
    rcases List.mem_cons.mp hb with rfl | hb
    · exact I1.fpOk (Nat.le_succ _) (I1.hok.fresh (Nat.le_succ _))
    · have e : b = s1.heap.objs.size := by simpa using hb
      subst e
      exact I1.fpOk (Nat.le_refl _) (I1.hok.fresh (Nat.le_refl _))
end L2
end
section
set_option Elab.async false
set_option linter.all false
set_option maxRecDepth 100000
namespace L2
open PySem PySem.Spec PyProof.Rows

section
variable {prog : Program} {w : World} {A : Around} {E : Value → Shared → Prop} {s : Shared}
end
section
variable {X : Cx} {o e f : Expr} {apos cpos : Pos} {td ty tx : TE}
end

section
variable {X : Cx}
theorem truth_bools {prog : Program} {w : World} {A : Around} {bs : List Bool} {its : List Value} (r : Vals (bs.map V.bl) its) : TruthOf prog w A (fun i v => its.toArray[i]? = some v) (fun i => bs.getD i false) := by
  intro i v s Q E hv hq
  have hv : its[i]? = some v := by simpa using hv
  have hl := r.length
  rw [List.length_map] at hl
  obtain ⟨hi, _⟩ := List.getElem?_eq_some_iff.mp hv
  have hb : bs[i]? = some bs[i] := List.getElem?_eq_getElem (by omega)
  obtain ⟨u, hu, ru⟩ := r.get (i := i) (x := V.bl bs[i]) (by rw [List.getElem?_map, hb]; rfl)
  rw [hv] at hu
  cases hu
  obtain rfl : v = Value.bool bs[i] := ru
  have e : bs.getD i false = bs[i] := by rw [List.getD_eq_getElem?_getD, hb]; rfl
  have hq : Q (bs.getD i false) s := hq
  rw [e] at hq
  exact wpAny_truthy_bool hq
theorem range_all (bs : List Bool) : (List.range bs.length).all (fun i => bs.getD i false) = bs.all id := by
  rw [Bool.eq_iff_iff]
  simp only [List.all_eq_true, List.mem_range]
  constructor
  · intro h b hb
    obtain ⟨i, hi, e⟩ := List.getElem_of_mem hb
    have := h i hi
    rw [List.getD_eq_getElem?_getD, List.getElem?_eq_getElem hi, e] at this
    exact this
  · intro h i hi
    rw [List.getD_eq_getElem?_getD, List.getElem?_eq_getElem hi]
    exact h _ (List.getElem_mem hi)
theorem call_all (hc : X.calm = true) : CallR X (.builtin "all") (fun xs H Q => ∃ (p : Addr) (bs : List Bool), xs = [.ref p] ∧ SqL X.K H p (bs.map V.bl) ∧ Q (.bl (bs.all id)) H) := by
  intro pins s σ H xs us Q I r h
  obtain ⟨p, bs, rfl, hq, q⟩ := h
  obtain ⟨u, rfl, rx⟩ := vals1 r
  cases rx
  obtain ⟨its, rv, pl, hz⟩ := I.list hq
  have hl := rv.length
  rw [List.length_map] at hl
  obtain ⟨o, ho, _⟩ := id pl.isList
  refine call_all_walk (wpAny_pyIter_list pl.isList ?_)
  have hne : p ≠ s.heap.objs.size := Nat.ne_of_lt (Heap.lt_size ho)
  have I1 : Inv X pins σ H { s with heap := s.heap.push { cls := .type "list_iterator", data := .fields #[.ref p, .int 0 0] } } := I.kept (t' := s.toks) fun b o e => Heap.get?_push_of_some _ e
  refine ⟨_, _, _, _, _, _, _, rfl, Walks.list (A := X.A.in1) (I.ok.hd hc) _ p hne its.toArray, ⟨⟨_, Heap.get?_push_size _ rfl, rfl, rfl⟩, pl.isList.at fun o e => Heap.get?_push_of_some _ e⟩, truth_bools rv, fun h' tk kk => ?_⟩
  rw [List.size_toArray, ← hl, range_all]
  refine ⟨.bl _, H, I1.turned (t' := tk) (fun b o hb e => kk b o (by simpa using hb) e) (I.hok.fresh (Nat.le_refl _)) (Nat.ne_of_gt I.lt) (.inr I.sz) (fun x c e z => ?_) (fun p hp z => ?_), rfl, q⟩
  · obtain ⟨v, q⟩ := I.cell x c e
    exact absurd q.lt (by rw [z]; exact Nat.lt_irrefl _)
  · exact absurd (Heap.lt_size (I.pin p hp).1) (by rw [z]; exact Nat.lt_irrefl _)

theorem strs_of {ss : List Str} {its : List Value} (r : Vals (ss.map V.str) its) : StrsAre its ss := by
  induction ss generalizing its with
  | nil => cases r; exact .nil
  | cons x ss ih =>
    cases r with
    | cons h t => obtain ⟨tk, rfl⟩ := h; exact .cons _ _ (ih t)
theorem of_strs {ss : List Str} {its : List Value} (r : StrsAre its ss) : Vals (ss.map V.str) its := by
  induction r with
  | nil => exact .nil
  | cons _ _ _ ih => exact .cons ⟨_, rfl⟩ ih
theorem call_sorted_strs : CallR X (.builtin "sorted") (fun xs H Q => ∃ (p : Addr) (ss : List Str), xs = [.ref p] ∧ SqL X.K H p (ss.map V.str) ∧ ss.length < 64 ∧ ∀ (l : Addr) (ss' : List Str), H l = none → ss'.Perm ss → sortedS ss' = true → Q (.ref l) (upd H l (.lst (ss'.map V.str)))) := by
  intro pins s σ H xs us Q I r h
  obtain ⟨p, ss, rfl, hq, h64, q⟩ := h
  obtain ⟨u, rfl, rx⟩ := vals1 r
  cases rx
  obtain ⟨its, rv, pl, hz⟩ := I.list hq
  have hl := rv.length
  rw [List.length_map] at hl
  refine sorted_strs pl.isList (strs_of rv) (by omega) fun out ss' h1 h2 h3 => ?_
  obtain ⟨e, he⟩ := sortedAll_at s.heap its out
  refine ⟨.ref (s.heap.objs.size + 1), _, I.laid (t' := s.toks) (fun b o e => sortedAll_old e) (Nat.le_succ _) (show ObjOk X.prog X.w _ _ _ (.lst (ss'.map V.str)) from ⟨?_, out.toList, e, of_strs h1, by simpa [seqObj] using he⟩), rfl, q _ _ (I.hok.fresh (Nat.le_succ _)) h2 h3⟩
  rw [List.length_map, h2.length_eq]
  rw [List.length_map] at hz
  exact hz

def rIsi (K : PySem.W.Frag) : List V → Hp → VK → Prop := fun xs H Q => ∃ x T t b, xs = [x, .ty T] ∧ TyOf K H x t ∧ PySem.W.kitOne K t (.type T) = some b ∧ Q (.bl b) H
theorem call_isinst : CallR X (.builtin "isinstance") (rIsi X.K) := by
  intro pins s σ H xs us Q I r h
  obtain ⟨x, T, t, b, rfl, ty, hk, q⟩ := h
  cases r with
  | cons r1 rr =>
    cases rr with
    | cons r2 rr =>
      cases rr
      cases (show _ = Value.type T from r2)
      exact isinst_ok I r1 ty hk fun tk => ⟨.bl b, H, I.tok _, rfl, q⟩
end
end L2
end
section
set_option Elab.async false
set_option linter.all false
set_option maxRecDepth 100000
namespace L2
open PySem PySem.Spec PyProof.Rows

section
variable {X : Cx} {scope : Scope} {N' : List Str} {src : List (Option Nat)} {pins : List (Addr × Obj)} {σ : St} {H2 : Hp} {s2 : Shared}

end
end L2
end
section
set_option Elab.async false
set_option linter.all false
set_option maxRecDepth 100000
namespace L2
open PySem PySem.Spec PyProof.Rows

section
variable {X : Cx}
end
end L2
end
section
set_option Elab.async false
set_option linter.all false
set_option maxRecDepth 100000
namespace L2
open PySem PySem.Spec PyProof.Rows

theorem Inv.turnedNew {X : Cx} {pins : List (Addr × Obj)} {σ : St} {H : Hp} {s : Shared} {h' : Heap} {t' : Nat} {ch : List Addr} {xs : List V} {its : List Value} (I : Inv X pins σ H s) (hf : ∀ b ∈ ch, FpOk X pins H b)
    (keep : ∀ b o, b ∉ ch → s.heap.get? b = some o → h'.get? b = some o) (hT : h'.get? s.heap.objs.size = some { cls := .type "tuple", data := .seq its.toArray }) (r : Vals xs its) (hz : xs.length ≤ sizeLine) :
    Inv X pins σ (upd H s.heap.objs.size (.tup xs)) { s with heap := h', toks := t' } := by
  have nit : ∀ b u, H b = some u → b ∉ ch := fun b u e hb => by
    have := (hf b hb).1
    rw [this] at e; cases e
  have I0 : Inv X pins σ H { s with heap := h', toks := t' } := by
    refine I.step (g' := s.gens) (d' := s.drawn) (ch := ch) (fun b hb => ⟨(hf b hb).2.2.2.1, (hf b hb).2.1, (hf b hb).2.2.2.2.1, (hf b hb).2.2.2.2.2⟩) (fun b o _ _ hc e _ => keep b o hc e) (fun b o _ _ hc e _ => ⟨o.slots, keep b o hc e⟩)
      (fun _ _ _ _ n => n) (fun b o hc e => ⟨o, keep b o hc e⟩) (fun _ _ e => e) (fun _ _ _ e => e) (fun b ps e => ⟨#[], by rw [e]; simp⟩) (fun m hm => ?_) (fun b u eq => ?_) I.bare
    · obtain ⟨o, es, ep, ho, r⟩ := hm
      exact ⟨o, es, ep, keep _ o (fun z => (hf _ z).2.1 rfl) ho, r⟩
    · refine (I.hok b u eq).stay (fun c v hc q => keep c v ?_ q) (fun _ q => q) fun _ _ q => q
      rcases hc with z | z
      · rw [z]; exact nit b u eq
      · exact nit c _ z
  have hfree : H s.heap.objs.size = none := I.hok.fresh (Nat.le_refl _)
  have base := I0.base
  have hok : HOk X.prog X.w (upd H s.heap.objs.size (.tup xs)) h' := by
    intro b z q
    by_cases hb : b = s.heap.objs.size
    · subst hb; rw [upd_same] at q; cases q
      exact ⟨⟨hz, _, hT, rfl⟩, its, r, _, hT, rfl, _, rfl⟩
    · rw [upd_ne hb] at q
      refine (I0.hok b z q).stay (fun c w' _ r => r) (fun c r => ?_) fun c xs r => ?_
      · rw [upd_ne (ne_of_none r hfree)]; exact r
      · rw [upd_ne (ne_of_none r hfree)]; exact r
  have old : ∀ b o', X.s₀.heap.get? b = some o' → b ≠ s.heap.objs.size := fun b o' e => Nat.ne_of_lt (Nat.lt_of_lt_of_le (Heap.lt_size e) I.sz)
  refine ⟨I0.ok, I0.os, I0.bare, ⟨base.keep, base.slot, fun b ob q n hx => ?_, base.there, fun b ys q => ?_, fun b ob y q => ?_, fun b ps q => ?_⟩, I0.loc, I0.cell, ?_, fun y c h => ?_, fun p hp => ?_, hok, I0.len⟩
  · rw [upd_ne (old b ob q)]; exact base.free b ob q n hx
  · have := base.tups b ys q
    rw [upd_ne (ne_of_none this hfree)]; exact this
  · have := base.frzs b ob y q
    rw [upd_ne (ne_of_none this hfree)]; exact this
  · obtain ⟨m, this⟩ := base.tbls b ps q
    exact ⟨m, by rw [upd_ne (ne_of_none this hfree)]; exact this⟩
  · rw [upd_ne (Nat.ne_of_lt I.lt)]; exact I.free
  · obtain ⟨v, q⟩ := I.cell y c h
    rw [upd_ne (Nat.ne_of_lt q.lt)]; exact I.freeC y c h
  · obtain ⟨h1, h2, h3⟩ := I0.pin p hp
    have := Heap.lt_size (I.pin p hp).1
    exact ⟨h1, by rw [upd_ne (Nat.ne_of_lt this)]; exact h2, h3⟩
theorem Inv.turnedAll {X : Cx} {pins : List (Addr × Obj)} {σ : St} {H : Hp} {s : Shared} {h' : Heap} {t' : Nat} {ch : List Addr} (I : Inv X pins σ H s) (hf : ∀ b ∈ ch, FpOk X pins H b)
    (keep : ∀ b o, b ∉ ch → s.heap.get? b = some o → h'.get? b = some o) : Inv X pins σ H { s with heap := h', toks := t' } := by
  have nit : ∀ b u, H b = some u → b ∉ ch := fun b u e hb => by
    have := (hf b hb).1
    rw [this] at e; cases e
  refine I.step (g' := s.gens) (d' := s.drawn) (ch := ch) (fun b hb => ⟨(hf b hb).2.2.2.1, (hf b hb).2.1, (hf b hb).2.2.2.2.1, (hf b hb).2.2.2.2.2⟩) (fun b o _ _ hc e _ => keep b o hc e) (fun b o _ _ hc e _ => ⟨o.slots, keep b o hc e⟩)
    (fun _ _ _ _ n => n) (fun b o hc e => ⟨o, keep b o hc e⟩) (fun _ _ e => e) (fun _ _ _ e => e) (fun b ps e => ⟨#[], by rw [e]; simp⟩) (fun m hm => ?_) (fun b u eq => ?_) I.bare
  · obtain ⟨o, es, ep, ho, r⟩ := hm
    exact ⟨o, es, ep, keep _ o (fun z => (hf _ z).2.1 rfl) ho, r⟩
  · refine (I.hok b u eq).stay (fun c v hc q => keep c v ?_ q) (fun _ q => q) fun _ _ q => q
    rcases hc with z | z
    · rw [z]; exact nit b u eq
    · exact nit c _ z

def ItB (tp : Bool) (h : Heap) (it l : Addr) (k : Nat) : Prop := match tp with | true => h.IsTupleIter it l k | false => h.IsListIter it l k
def SeB (tp : Bool) (h : Heap) (l : Addr) (xs : Array Value) : Prop := match tp with | true => h.IsTuple l xs | false => h.IsList l xs
theorem ItB.at {tp : Bool} {h h' : Heap} {it l : Addr} {k : Nat} (x : ItB tp h it l k) (e : ∀ o, h.get? it = some o → h'.get? it = some o) : ItB tp h' it l k := by
  cases tp with
  | true => exact Heap.IsTupleIter.at x e
  | false => exact Heap.IsListIter.at x e
theorem SeB.at {tp : Bool} {h h' : Heap} {l : Addr} {xs : Array Value} (x : SeB tp h l xs) (e : ∀ o, h.get? l = some o → h'.get? l = some o) : SeB tp h' l xs := by
  cases tp with
  | true => obtain ⟨o, ho, r⟩ := (show h.IsTuple l xs from x); exact ⟨o, e _ ho, r⟩
  | false => exact Heap.IsList.at x e
theorem ItB.obj {tp : Bool} {h : Heap} {it l : Addr} {k : Nat} (x : ItB tp h it l k) : ∃ o, h.get? it = some o ∧ ∀ v, o.data ≠ .cell v := by
  cases tp with
  | true => obtain ⟨o, e, c, d⟩ := (show h.IsTupleIter it l k from x); exact ⟨o, e, fun v z => by rw [d] at z; cases z⟩
  | false => obtain ⟨o, e, c, d⟩ := (show h.IsListIter it l k from x); exact ⟨o, e, fun v z => by rw [d] at z; cases z⟩
section
variable {prog : Program} {w : World} {A : Around} {E : Value → Shared → Prop} {s : Shared}
theorem draw_item {tp : Bool} {it l : Addr} {k : Nat} {items : Array Value} {x : Value} {Q : Value → Shared → Prop} (hit : ItB tp s.heap it l k) (hl : SeB tp s.heap l items) (hx : items[k]? = some x)
    (hQ : ∀ h', ItB tp h' it l (k + 1) → Heap.SameBut it s.heap h' → Q x { s with heap := h' }) : wpAny (model prog w) A (Builtin.SmallTypes.nextOf (.ref it)) Q E s := by
  cases tp with
  | false => exact wpAny_nextOf_list_item hit hl hx hQ
  | true =>
    have hit : s.heap.IsTupleIter it l k := hit
    obtain ⟨o, ho, hc, hd⟩ := id hit
    obtain ⟨ol, hol, _, nl, hdl⟩ := (show s.heap.IsTuple l items from hl)
    unfold Builtin.SmallTypes.nextOf
    refine wpAny_bind (wpAny_callSpecial?_slot (name := Str.ofString "__next__") hit.typeIs F.slot_tuple_iterator_next (wpAny_call_entry F.slot_tuple_iterator_next hit.typeIs F.entry_tuple_iterator_next ?_ (F.args_tuple_iterator_next_1 _)))
    show wpAny _ _ (field (.ref it) 0 >>= _) _ _ s
    refine wpAny_bind (wpAny_field ho hd (x := .ref l) rfl ?_)
    show wpAny _ _ (if (Value.ref l == Value.none) = true then _ else _) _ _ s
    rw [if_neg (show ¬ ((Value.ref l == Value.none) = true) from Bool.false_ne_true)]
    show wpAny _ _ (field (.ref it) 1 >>= _) _ _ s
    refine wpAny_bind (wpAny_field ho hd (x := .int k 0) rfl ?_)
    show wpAny _ _ (seqItems? (.ref l) >>= _) _ _ s
    refine wpAny_bind (wpAny_seqItems hol hdl ?_)
    simp only [Int.toNat_natCast, hx]
    refine wpAny_bind (wpAny_setField ho hd (by simp) (wpAny_pure ⟨x, rfl, wpAny_pure (hQ _ (show Heap.IsTupleIter _ it l (k + 1) from ?_) (Heap.SameBut.update ..))⟩))
    exact ⟨_, Heap.get?_update_self _ ho (Obj.isFreed_of_fields (Obj.data_mapFields hd _)), (Obj.cls_mapFields ..).trans hc, by rw [Obj.data_mapFields hd]; simp [rawInt]⟩
theorem draw_end {tp : Bool} {it l : Addr} {k : Nat} {items : Array Value} {Q : Value → Shared → Prop} (hh : A.handled = none) (hit : ItB tp s.heap it l k) (hl : SeB tp s.heap l items) (hx : items[k]? = none)
    (hE : ∀ h' e, Heap.ExtBut it s.heap h' → (∃ o, h'.get? e = some o ∧ o.cls = .type "StopIteration") → E (.ref e) { s with heap := h' }) : wpAny (model prog w) A (Builtin.SmallTypes.nextOf (.ref it)) Q E s := by
  cases tp with
  | false => exact wpAny_nextOf_list_end hh hit hl hx hE
  | true =>
    have hit : s.heap.IsTupleIter it l k := hit
    obtain ⟨o, ho, hc, hd⟩ := id hit
    obtain ⟨ol, hol, _, nl, hdl⟩ := (show s.heap.IsTuple l items from hl)
    unfold Builtin.SmallTypes.nextOf
    refine wpAny_bind (wpAny_callSpecial?_slot (name := Str.ofString "__next__") hit.typeIs F.slot_tuple_iterator_next (wpAny_call_entry F.slot_tuple_iterator_next hit.typeIs F.entry_tuple_iterator_next ?_ (F.args_tuple_iterator_next_1 _)))
    show wpAny _ _ (field (.ref it) 0 >>= _) _ _ s
    refine wpAny_bind (wpAny_field ho hd (x := .ref l) rfl ?_)
    show wpAny _ _ (if (Value.ref l == Value.none) = true then _ else _) _ _ s
    rw [if_neg (show ¬ ((Value.ref l == Value.none) = true) from Bool.false_ne_true)]
    show wpAny _ _ (field (.ref it) 1 >>= _) _ _ s
    refine wpAny_bind (wpAny_field ho hd (x := .int k 0) rfl ?_)
    show wpAny _ _ (seqItems? (.ref l) >>= _) _ _ s
    refine wpAny_bind (wpAny_seqItems hol hdl ?_)
    simp only [Int.toNat_natCast, hx]
    refine wpAny_bind (wpAny_rule (wpAny_bind (wpAny_setField ho hd (by simp) ?_)))
    show wpAny _ _ (newExc (.type "StopIteration") [] >>= _) _ _ _
    refine wpAny_bind ?_
    simp only [newExc, newTuple]
    refine wpAny_bind (wpAny_newObj_type ?_ (by size_fits))
    refine wpAny_bind (m := firstArgMember _ _) (wpAny_of_eq (a := Value.none) (by first | rfl | (simp only [firstArgMember]; rfl)) ?_)
    refine wpAny_newObj_type ?_ (by size_fits)
    simp only [raiseNew]
    refine wpAny_bind (wpAny_handled ?_)
    first | rw [show A.in1.handled = none from hh] | rw [hh]
    refine wpAny_bind (wpAny_pure (wpAny_throw ?_))
    exact hE _ _ (((Heap.SameBut.update ..).extBut.push _).push _) ⟨_, Heap.get?_push_size _ rfl, rfl⟩

theorem zipB_item {p q : Bool} {z TI TO i1 i2 l1 l2 : Addr} {k : Nat} {xs ys : Array Value} {x y a b : Value} {Q : Option Value → Shared → Prop} (D : ZipApart z TI TO i1 i2 l1 l2)
    (hz : IsZip s.heap z TI TO .none) (hTI : IsPair s.heap TI (.ref i1) (.ref i2)) (hTO : IsPair s.heap TO a b)
    (h1 : ItB p s.heap i1 l1 k) (h2 : ItB q s.heap i2 l2 k) (hl1 : SeB p s.heap l1 xs) (hl2 : SeB q s.heap l2 ys) (hx : xs[k]? = some x) (hy : ys[k]? = some y)
    (hQ : ∀ h', IsZip h' z TI TO (rawInt s.heap.objs.size) → IsPair h' TO x y → ItB p h' i1 l1 (k + 1) → ItB q h' i2 l2 (k + 1) → IsPair h' s.heap.objs.size x y →
      (∀ c o, c ≠ z → c ≠ TO → c ≠ i1 → c ≠ i2 → s.heap.get? c = some o → h'.get? c = some o) → Q (some (.ref s.heap.objs.size)) { s with heap := h' }) :
    wpAny (model prog w) A (pyNext (.ref z)) Q E s := by
  have hT : s.TypeIs (.ref z) "zip" := ⟨_, hz, rfl⟩
  unfold pyNext
  refine wpAny_bind (wpAny_attempt (wpAny_callSpecial?_slot (name := Str.ofString "__next__") hT F.slot_zip_next (wpAny_call_entry F.slot_zip_next hT F.entry_zip_next ?_ (F.args_zip_next_1 _))))
  show wpAny _ _ (field (.ref z) 2 >>= _) _ _ _
  refine wpAny_bind (wpAny_field hz rfl (x := .bool false) rfl ?_)
  show wpAny _ _ (field (.ref z) 3 >>= _) _ _ _
  refine wpAny_bind (wpAny_field hz rfl (x := .ref TI) rfl (wpAny_bind (wpAny_seqItems hTI rfl ?_)))
  show wpAny _ _ (Builtin.SmallTypes.ownedTupleIsFree (.ref z) >>= _) _ _ _
  refine wpAny_bind ?_
  unfold Builtin.SmallTypes.ownedTupleIsFree
  refine wpAny_bind (wpAny_field hz rfl (x := .none) rfl (wpAny_pure ?_))
  simp only [if_true]
  refine wpAny_bind (wpAny_rule (wpAny_bind (wpAny_field hz rfl (x := .ref TO) rfl (wpAny_bind (wpAny_setField_rec hz (by simp) fun h₁ hz₁ hs₁ => ?_)))))
  replace hz₁ : IsZip h₁ z TI TO .ellipsis := hz₁
  refine wpAny_bind ?_
  simp only [List.zipIdx_cons, List.zipIdx_nil, List.forIn_cons, List.forIn_nil]
  refine wpAny_bind (wpAny_bind (wpAny_onRaise ?_))
  show wpAny _ _ (Builtin.SmallTypes.nextOf (.ref i1) >>= _) _ _ _
  refine wpAny_bind (draw_item (h1.at fun o e => hs₁.extBut _ _ D.i1z e) (hl1.at fun o e => hs₁.extBut _ _ D.l1z e) hx fun h₂ h1₂ hs₂ => wpAny_pure ?_)
  have hTO₂ : IsPair h₂ TO a b := hs₂.extBut _ _ D.TOi1 (hs₁.extBut _ _ D.TOz hTO)
  refine wpAny_bind (wpAny_seqItems hTO₂ rfl (wpAny_bind (wpAny_updateSeq_pair hTO₂ fun h₃ hTO₃ hs₃ => ?_)))
  replace hTO₃ : IsPair h₃ TO x b := hTO₃
  refine wpAny_bind (wpAny_letGo (wpAny_pure ?_))
  refine wpAny_bind (wpAny_bind (wpAny_onRaise ?_))
  show wpAny _ _ (Builtin.SmallTypes.nextOf (.ref i2) >>= _) _ _ _
  refine wpAny_bind (draw_item (h2.at fun o e => hs₃.extBut _ _ D.TOi2.symm (hs₂.extBut _ _ D.i12.symm (hs₁.extBut _ _ D.i2z e)))
    (hl2.at fun o e => hs₃.extBut _ _ D.l2TO (hs₂.extBut _ _ D.l2i1 (hs₁.extBut _ _ D.l2z e))) hy fun h₄ h2₄ hs₄ => wpAny_pure ?_)
  have hTO₄ : IsPair h₄ TO x b := hs₄.extBut _ _ D.TOi2 hTO₃
  refine wpAny_bind (wpAny_seqItems hTO₄ rfl (wpAny_bind (wpAny_updateSeq_pair hTO₄ fun h₅ hTO₅ hs₅ => ?_)))
  replace hTO₅ : IsPair h₅ TO x y := hTO₅
  refine wpAny_bind (wpAny_letGo (wpAny_pure (wpAny_pure ?_)))
  refine wpAny_bind (wpAny_seqItems hTO₅ rfl (wpAny_bind (wpAny_newTuple ?_)))
  have hsz : h₅.objs.size = s.heap.objs.size := by rw [hs₅.1, hs₄.1, hs₃.1, hs₂.1, hs₁.1]
  have hz₅ : IsZip h₅ z TI TO .ellipsis := hs₅.extBut _ _ D.TOz.symm (hs₄.extBut _ _ D.i2z.symm (hs₃.extBut _ _ D.TOz.symm (hs₂.extBut _ _ D.i1z.symm hz₁)))
  have hk₅ : ∀ c o, c ≠ z → c ≠ TO → c ≠ i1 → c ≠ i2 → s.heap.get? c = some o → h₅.get? c = some o := fun c o c1 c2 c3 c4 e =>
    hs₅.extBut _ _ c2 (hs₄.extBut _ _ c4 (hs₃.extBut _ _ c2 (hs₂.extBut _ _ c3 (hs₁.extBut _ _ c1 e))))
  have h1₅ : ItB p h₅ i1 l1 (k + 1) := h1₂.at fun o e => hs₅.extBut _ _ D.TOi1.symm (hs₄.extBut _ _ D.i12 (hs₃.extBut _ _ D.TOi1.symm e))
  have h2₅ : ItB q h₅ i2 l2 (k + 1) := h2₄.at fun o e => hs₅.extBut _ _ D.TOi2.symm e
  have hzlt : z < h₅.objs.size := Heap.lt_size hz₅
  show wpAny _ _ (Builtin.SmallTypes.ownedTupleHandOut (.ref z) (.ref h₅.objs.size) >>= _) _ _ _
  refine wpAny_bind ?_
  unfold Builtin.SmallTypes.ownedTupleHandOut
  have hz₆ : IsZip (h₅.push { cls := .type "tuple", data := .seq #[x, y] }) z TI TO .ellipsis := Heap.get?_push_of_some _ hz₅
  refine wpAny_bind (wpAny_setField_rec hz₆ (by simp) fun h₇ hz₇ hs₇ => ?_)
  replace hz₇ : IsZip h₇ z TI TO (rawInt h₅.objs.size) := hz₇
  refine wpAny_setField_rec hz₇ (by simp) fun h₈ hz₈ hs₈ => ?_
  replace hz₈ : IsZip h₈ z TI TO (rawInt h₅.objs.size) := hz₈
  have up : ∀ c o, c ≠ z → h₅.get? c = some o → h₈.get? c = some o := fun c o c1 e => hs₈.extBut _ _ c1 (hs₇.extBut _ _ c1 (Heap.get?_push_of_some _ e))
  have hT₈ : IsPair h₈ h₅.objs.size x y := hs₈.extBut _ _ (Nat.ne_of_gt hzlt) (hs₇.extBut _ _ (Nat.ne_of_gt hzlt) (Heap.get?_push_size _ rfl))
  rw [hsz] at hz₈ hT₈
  refine wpAny_pure ⟨_, rfl, ?_⟩
  show wpAny _ _ (pure (some (Value.ref h₅.objs.size))) _ _ _
  refine wpAny_pure ?_
  rw [hsz]
  exact hQ h₈ hz₈ (up _ _ D.TOz hTO₅) (h1₅.at fun o e => up _ o D.i1z e) (h2₅.at fun o e => up _ o D.i2z e) hT₈ fun c o c1 c2 c3 c4 e => up c o c1 (hk₅ c o c1 c2 c3 c4 e)
theorem zipB_end {p q : Bool} {z TI TO i1 i2 l1 l2 : Addr} {k : Nat} {xs ys : Array Value} {a b : Value} {Q : Option Value → Shared → Prop} (hh : A.handled = none) (D : ZipApart z TI TO i1 i2 l1 l2)
    (hz : IsZip s.heap z TI TO .none) (hTI : IsPair s.heap TI (.ref i1) (.ref i2)) (hTO : IsPair s.heap TO a b)
    (h1 : ItB p s.heap i1 l1 k) (h2 : ItB q s.heap i2 l2 k) (hl1 : SeB p s.heap l1 xs) (hl2 : SeB q s.heap l2 ys) (hend : xs[k]? = none ∨ ys[k]? = none)
    (hQ : ∀ h', (∀ c o, c ≠ z → c ≠ TO → c ≠ i1 → c ≠ i2 → s.heap.get? c = some o → h'.get? c = some o) → Q none { s with heap := h' }) : wpAny (model prog w) A (pyNext (.ref z)) Q E s := by
  have hT : s.TypeIs (.ref z) "zip" := ⟨_, hz, rfl⟩
  unfold pyNext
  have stop : ∀ (h' : Heap) (e : Addr), (∀ c o, c ≠ z → c ≠ TO → c ≠ i1 → c ≠ i2 → s.heap.get? c = some o → h'.get? c = some o) → (∃ o, h'.get? e = some o ∧ o.cls = .type "StopIteration") →
      wpAny (model prog w) A (do if (← isInstance (.ref e) (.type "StopIteration")) = true then pure none else throw (.ref e)) Q E { s with heap := h' } := fun h' e hk he => by
    obtain ⟨o, ho, hc⟩ := he
    exact wpAny_bind (wpAny_isInstance (T := "StopIteration") (b := true) ⟨o, ho, hc⟩ isSubtype_stop (wpAny_pure (hQ _ hk)))
  refine wpAny_bind (wpAny_attempt (wpAny_callSpecial?_slot (name := Str.ofString "__next__") hT F.slot_zip_next (wpAny_call_entry F.slot_zip_next hT F.entry_zip_next ?_ (F.args_zip_next_1 _))))
  show wpAny _ _ (field (.ref z) 2 >>= _) _ _ _
  refine wpAny_bind (wpAny_field hz rfl (x := .bool false) rfl ?_)
  show wpAny _ _ (field (.ref z) 3 >>= _) _ _ _
  refine wpAny_bind (wpAny_field hz rfl (x := .ref TI) rfl (wpAny_bind (wpAny_seqItems hTI rfl ?_)))
  show wpAny _ _ (Builtin.SmallTypes.ownedTupleIsFree (.ref z) >>= _) _ _ _
  refine wpAny_bind ?_
  unfold Builtin.SmallTypes.ownedTupleIsFree
  refine wpAny_bind (wpAny_field hz rfl (x := .none) rfl (wpAny_pure ?_))
  simp only [if_true]
  refine wpAny_bind (wpAny_rule (wpAny_bind (wpAny_field hz rfl (x := .ref TO) rfl (wpAny_bind (wpAny_setField_rec hz (by simp) fun h₁ hz₁ hs₁ => ?_)))))
  replace hz₁ : IsZip h₁ z TI TO .ellipsis := hz₁
  refine wpAny_bind ?_
  simp only [List.zipIdx_cons, List.zipIdx_nil, List.forIn_cons, List.forIn_nil]
  refine wpAny_bind (wpAny_bind (wpAny_onRaise ?_))
  show wpAny _ _ (Builtin.SmallTypes.nextOf (.ref i1) >>= _) _ _ _
  have i1₁ := h1.at (h' := h₁) fun o e => hs₁.extBut _ _ D.i1z e
  have l1₁ := hl1.at (h' := h₁) fun o e => hs₁.extBut _ _ D.l1z e
  cases hx : xs[k]? with
  | none =>
    refine wpAny_bind (draw_end hh i1₁ l1₁ hx fun h₂ e hs₂ he => ?_)
    obtain ⟨oe, hoe, hce⟩ := he
    have hz₂ : IsZip h₂ z TI TO .ellipsis := hs₂ _ _ D.i1z.symm hz₁
    have hez : e ≠ z := fun x => by subst x; rw [hz₂] at hoe; cases hoe; simp at hce
    refine wpAny_setField_rec hz₂ (by simp) fun h₃ _ hs₃ => ?_
    exact stop h₃ e (fun c o c1 _ c3 _ x => hs₃.extBut _ _ c1 (hs₂ _ _ c3 (hs₁.extBut _ _ c1 x))) ⟨oe, hs₃.extBut _ _ hez hoe, hce⟩
  | some x =>
    have hy : ys[k]? = none := by rcases hend with h | h; rw [hx] at h; cases h; exact h
    refine wpAny_bind (draw_item i1₁ l1₁ hx fun h₂ h1₂ hs₂ => wpAny_pure ?_)
    have hTO₂ : IsPair h₂ TO a b := hs₂.extBut _ _ D.TOi1 (hs₁.extBut _ _ D.TOz hTO)
    refine wpAny_bind (wpAny_seqItems hTO₂ rfl (wpAny_bind (wpAny_updateSeq_pair hTO₂ fun h₃ hTO₃ hs₃ => ?_)))
    refine wpAny_bind (wpAny_letGo (wpAny_pure ?_))
    refine wpAny_bind (wpAny_bind (wpAny_onRaise ?_))
    show wpAny _ _ (Builtin.SmallTypes.nextOf (.ref i2) >>= _) _ _ _
    refine wpAny_bind (draw_end hh (h2.at fun o e => hs₃.extBut _ _ D.TOi2.symm (hs₂.extBut _ _ D.i12.symm (hs₁.extBut _ _ D.i2z e)))
      (hl2.at fun o e => hs₃.extBut _ _ D.l2TO (hs₂.extBut _ _ D.l2i1 (hs₁.extBut _ _ D.l2z e))) hy fun h₄ e hs₄ he => ?_)
    obtain ⟨oe, hoe, hce⟩ := he
    have hz₄ : IsZip h₄ z TI TO .ellipsis := hs₄ _ _ D.i2z.symm (hs₃.extBut _ _ D.TOz.symm (hs₂.extBut _ _ D.i1z.symm hz₁))
    have hez : e ≠ z := fun x => by subst x; rw [hz₄] at hoe; cases hoe; simp at hce
    refine wpAny_setField_rec hz₄ (by simp) fun h₅ _ hs₅ => ?_
    exact stop h₅ e (fun c o c1 c2 c3 c4 x => hs₅.extBut _ _ c1 (hs₄ _ _ c4 (hs₃.extBut _ _ c2 (hs₂.extBut _ _ c3 (hs₁.extBut _ _ c1 x))))) ⟨oe, hs₅.extBut _ _ hez hoe, hce⟩
end
end L2
end
section
set_option Elab.async false
set_option linter.all false
set_option maxRecDepth 100000
namespace L2
open PySem PySem.Spec PyProof.Rows

def SqB (K : PySem.W.Frag) (tp : Bool) (H : Hp) (a : Addr) (xs : List V) : Prop := match tp with | true => SqT K H a xs | false => SqL K H a xs
def Itz (K : PySem.W.Frag) (p q : Bool) (a b : Addr) : It :=
  ⟨fun i H => ∃ xs ys x y, SqB K p H a xs ∧ SqB K q H b ys ∧ xs[i]? = some x ∧ ys[i]? = some y,
   fun i H v H' => ∃ T x y, H T = none ∧ v = .ref T ∧ H' = upd H T (.tup [x, y]) ∧ (∀ xs, SqB K p H a xs → xs[i]? = some x) ∧ ∀ ys, SqB K q H b ys → ys[i]? = some y,
   fun i H => ∃ xs ys, SqB K p H a xs ∧ SqB K q H b ys ∧ (xs.length ≤ i ∨ ys.length ≤ i)⟩
theorem Inv.seqB {X : Cx} {pins : List (Addr × Obj)} {σ : St} {H : Hp} {s : Shared} {tp : Bool} {a : Addr} {xs : List V} (I : Inv X pins σ H s) (h : SqB X.K tp H a xs) : ∃ its : List Value, Vals xs its ∧ SeB tp s.heap a its.toArray ∧ xs.length ≤ sizeLine := by
  cases tp with
  | true => obtain ⟨its, r, p, hz⟩ := I.tuple h; exact ⟨its, r, p, hz⟩
  | false => obtain ⟨its, r, p, hz⟩ := I.list h; exact ⟨its, r, p.isList, hz⟩
theorem Inv.seqB_inj {X : Cx} {pins : List (Addr × Obj)} {σ : St} {H : Hp} {s : Shared} {tp : Bool} {a : Addr} {xs ys : List V} (I : Inv X pins σ H s) (h : SqB X.K tp H a xs) (h' : SqB X.K tp H a ys) : xs = ys := by
  cases tp with
  | true => exact I.tuple_inj h h'
  | false => exact I.list_inj h h'
theorem turn_zip {P : Program} {w : World} {K : PySem.W.Frag} {es : List Expr} {k : Nat} {pos : Pos} {p q : Bool} {z TI TO i1 i2 l1 l2 : Addr} (D : ZipApart z TI TO i1 i2 l1 l2) :
    Turn P w K (.Tuple es k pos) (Itz K p q l1 l2) [z, TI, TO, i1, i2] z (fun i h => IsZip h z TI TO .none ∧ IsPair h TI (.ref i1) (.ref i2) ∧ (∃ a b, IsPair h TO a b) ∧ ItB p h i1 l1 i ∧ ItB q h i2 l2 i) where
  mem := by simp
  obj := fun i h st b hb => by
    obtain ⟨hz, hTI, ⟨a, c, hTO⟩, h1, h2⟩ := st
    simp only [List.mem_cons, List.not_mem_nil, or_false] at hb
    rcases hb with rfl | rfl | rfl | rfl | rfl
    · exact ⟨_, hz, fun v e => by
        have e' : Data.fields _ = Data.cell v := e
        cases e'⟩
    · exact ⟨_, hTI, fun v e => by
        have e' : Data.seq _ _ = Data.cell v := e
        cases e'⟩
    · exact ⟨_, hTO, fun v e => by
        have e' : Data.seq _ _ = Data.cell v := e
        cases e'⟩
    · exact h1.obj
    · exact h2.obj
  keep := fun i h h' st kp => by
    obtain ⟨hz, hTI, ⟨a, c, hTO⟩, h1, h2⟩ := st
    exact ⟨kp z (by simp) _ hz, kp TI (by simp) _ hTI, ⟨a, c, kp TO (by simp) _ hTO⟩, h1.at fun o e => kp i1 (by simp) o e, h2.at fun o e => kp i2 (by simp) o e⟩
  item := by
    intro X hP hw hK hc i pins s σ H E I hf st hg
    subst hP hw hK
    obtain ⟨xs, ys, x, y, hq1, hq2, hx, hy⟩ := hg
    obtain ⟨hz, hTI, ⟨a, c, hTO⟩, h1, h2⟩ := st
    obtain ⟨its1, rv1, p1, _⟩ := I.seqB hq1
    obtain ⟨its2, rv2, p2, _⟩ := I.seqB hq2
    obtain ⟨u1, hu1, ru1⟩ := rv1.get hx
    obtain ⟨u2, hu2, ru2⟩ := rv2.get hy
    have lt : ∀ {c o}, s.heap.get? c = some o → s.heap.objs.size ≠ c := fun e => Nat.ne_of_gt (Heap.lt_size e)
    refine zipB_item D hz hTI hTO h1 h2 p1 p2 (x := u1) (y := u2) (by simpa using hu1) (by simpa using hu2) fun h' hz' hTO' h1' h2' hT kk => ?_
    refine ⟨_, rfl, wpAny_letOwnedTupleGo_zip (s := { s with heap := h' }) hz' fun h'' hz'' hs'' => ?_⟩
    have hT2 : h''.get? s.heap.objs.size = some { cls := .type "tuple", data := .seq [u1, u2].toArray } := hs''.extBut _ _ (lt hz) hT
    have keep : ∀ b o, b ∉ [z, TI, TO, i1, i2] → s.heap.get? b = some o → h''.get? b = some o := fun b o hb e =>
      hs''.extBut _ _ (fun x => hb (by simp [x])) (kk b o (fun x => hb (by simp [x])) (fun x => hb (by simp [x])) (fun x => hb (by simp [x])) (fun x => hb (by simp [x])) e)
    have I1 : Inv X pins σ (upd H s.heap.objs.size (.tup [x, y])) { s with heap := h'' } := I.turnedNew (t' := s.toks) hf keep hT2 (.cons ru1 (.cons ru2 .nil)) (by show 2 ≤ sizeLine; decide)
    refine ⟨.ref s.heap.objs.size, _, I1, rfl, ⟨_, x, y, I.hok.fresh (Nat.le_refl _), rfl, rfl, fun ys' hy' => by rw [I.seqB_inj hy' hq1]; exact hx, fun ys' hy' => by rw [I.seqB_inj hy' hq2]; exact hy⟩,
      ⟨hz'', hs''.extBut _ _ D.TIz (kk _ _ D.TIz D.TITO D.TIi1 D.TIi2 hTI), ⟨_, _, hs''.extBut _ _ D.TOz hTO'⟩, h1'.at fun o e => hs''.extBut _ _ D.i1z e, h2'.at fun o e => hs''.extBut _ _ D.i2z e⟩, fun b hb => ?_⟩
    obtain ⟨o, e, _⟩ : ∃ o, s.heap.get? b = some o ∧ True := by
      simp only [List.mem_cons, List.not_mem_nil, or_false] at hb
      rcases hb with rfl | rfl | rfl | rfl | rfl
      · exact ⟨_, hz, trivial⟩
      · exact ⟨_, hTI, trivial⟩
      · exact ⟨_, hTO, trivial⟩
      · obtain ⟨o, e, _⟩ := h1.obj; exact ⟨o, e, trivial⟩
      · obtain ⟨o, e, _⟩ := h2.obj; exact ⟨o, e, trivial⟩
    rw [upd_ne (Ne.symm (lt e))]
    exact (hf b hb).1
  done := by
    intro X hP hw hK hc i pins s σ H E I hf st hg
    subst hP hw hK
    obtain ⟨xs, ys, hq1, hq2, hx⟩ := hg
    obtain ⟨hz, hTI, ⟨a, c, hTO⟩, h1, h2⟩ := st
    obtain ⟨its1, rv1, p1, _⟩ := I.seqB hq1
    obtain ⟨its2, rv2, p2, _⟩ := I.seqB hq2
    have l1 := rv1.length
    have l2 := rv2.length
    refine zipB_end (I.ok.hd hc) D hz hTI hTO h1 h2 p1 p2 ?_ fun h' kk => ⟨rfl, I.turnedAll (t' := s.toks) hf fun b o hb e => kk b o (fun x => hb (by simp [x])) (fun x => hb (by simp [x])) (fun x => hb (by simp [x])) (fun x => hb (by simp [x])) e⟩
    rcases hx with h | h
    · exact .inl (Array.getElem?_eq_none (by simp; omega))
    · exact .inr (Array.getElem?_eq_none (by simp; omega))
  self := fun _ _ _ _ _ st h => wpAny_pyIter_zip st.1 h

abbrev zt1 (h : Heap) (l1 : Addr) : Heap := h.push { cls := .type "tuple_iterator", data := .fields #[.ref l1, .int 0 0] }
abbrev zt2 (h : Heap) (l1 l2 : Addr) : Heap := (zt1 h l1).push { cls := .type "tuple_iterator", data := .fields #[.ref l2, .int 0 0] }
abbrev zt3 (h : Heap) (l1 l2 : Addr) : Heap := (zt2 h l1 l2).push { cls := .type "tuple", data := .seq #[.ref h.objs.size, .ref (zt1 h l1).objs.size] }
abbrev zt4 (h : Heap) (l1 l2 : Addr) : Heap := (zt3 h l1 l2).push { cls := .type "tuple", data := .seq #[.none, .none] }
abbrev zt5 (h : Heap) (l1 l2 : Addr) : Heap := (zt4 h l1 l2).push { cls := .type "zip", data := .fields #[.none, .bool false, .bool false, .ref (zt2 h l1 l2).objs.size, .ref (zt3 h l1 l2).objs.size] }
theorem meets_zip_tt (l1 l2 : Addr) (xs ys : Array Value) :
    Meets (Builtin.«zip.__new__» ⟨[.type "zip", .ref l1, .ref l2], []⟩) (fun _ R s => s.heap.IsTuple l1 xs ∧ s.heap.IsTuple l2 ys ∧ R (.ok (.ret (.ref (zt4 s.heap l1 l2).objs.size))) { s with heap := zt5 s.heap l1 l2 }) :=
  .of_wp fun prog w A R s h => by
    obtain ⟨hp, g, d, tk, os⟩ := s; obtain ⟨hl1, hl2, h⟩ := h
    have hsub := sub_zip
    have hL1 : Heap.IsTuple (Shared.heap ⟨hp, g, d, tk, os⟩) l1 xs := hl1
    have hL2 : Heap.IsTuple (Shared.heap ⟨hp.push { cls := .type "tuple_iterator", data := .fields #[.ref l1, .int 0 0] }, g, d, tk, os⟩) l2 ys := by
      obtain ⟨o, ho, r⟩ := hl2
      exact ⟨o, Heap.get?_push_of_some _ ho, r⟩
    wp_walk using wpAny_pyIter_tuple hL1, wpAny_pyIter_tuple hL2
    exact ⟨_, rfl, h⟩
theorem call_zip_tt {prog : Program} {w : World} {A : Around} {E : Value → Shared → Prop} {s : Shared} {l1 l2 : Addr} {xs ys : Array Value} {Q : Value → Shared → Prop} (hl1 : s.heap.IsTuple l1 xs) (hl2 : s.heap.IsTuple l2 ys)
    (h : ∀ h', IsZip h' (s.heap.objs.size + 4) (s.heap.objs.size + 2) (s.heap.objs.size + 3) .none → IsPair h' (s.heap.objs.size + 2) (.ref s.heap.objs.size) (.ref (s.heap.objs.size + 1)) →
      IsPair h' (s.heap.objs.size + 3) .none .none → h'.IsTupleIter s.heap.objs.size l1 0 → h'.IsTupleIter (s.heap.objs.size + 1) l2 0 →
      (∀ c o, s.heap.get? c = some o → h'.get? c = some o) → Q (.ref (s.heap.objs.size + 4)) { s with heap := h' }) :
    wpAny (model prog w) A (call (.type "zip") [.ref l1, .ref l2]) Q E s := by
  refine callType_new F.called_zip (by decide) (F.typeCall_zip_2 _ _) (F.newCall_zip_2 _ _) (fun obj => F.args_object_init_3 obj _ _) F.entry_zip_new (meets_zip_tt l1 l2 xs ys) ⟨hl1, hl2, ?_⟩
  have z1 : (zt1 s.heap l1).objs.size = s.heap.objs.size + 1 := Heap.size_push ..
  have z2 : (zt2 s.heap l1 l2).objs.size = s.heap.objs.size + 2 := by rw [Heap.size_push, z1]
  have z3 : (zt3 s.heap l1 l2).objs.size = s.heap.objs.size + 3 := by rw [Heap.size_push, z2]
  have z4 : (zt4 s.heap l1 l2).objs.size = s.heap.objs.size + 4 := by rw [Heap.size_push, z3]
  have up : ∀ c o, (zt1 s.heap l1).get? c = some o → (zt5 s.heap l1 l2).get? c = some o := fun c o e => Heap.get?_push_of_some _ (Heap.get?_push_of_some _ (Heap.get?_push_of_some _ (Heap.get?_push_of_some _ e)))
  have g5 : (zt5 s.heap l1 l2).get? (zt4 s.heap l1 l2).objs.size = some _ := Heap.get?_push_size _ rfl
  have g4 : (zt5 s.heap l1 l2).get? (zt3 s.heap l1 l2).objs.size = some _ := Heap.get?_push_of_some _ (Heap.get?_push_size _ rfl)
  have g3 : (zt5 s.heap l1 l2).get? (zt2 s.heap l1 l2).objs.size = some _ := Heap.get?_push_of_some _ (Heap.get?_push_of_some _ (Heap.get?_push_size _ rfl))
  have g2 : (zt5 s.heap l1 l2).get? (zt1 s.heap l1).objs.size = some _ := Heap.get?_push_of_some _ (Heap.get?_push_of_some _ (Heap.get?_push_of_some _ (Heap.get?_push_size _ rfl)))
  have g1 : (zt5 s.heap l1 l2).get? s.heap.objs.size = some _ := up _ _ (Heap.get?_push_size _ rfl)
  show _ ∧ _
  rw [z2, z3, z4] at g5
  rw [z1, z2] at g3
  rw [z3] at g4
  rw [z1] at g2
  rw [z4]
  exact ⟨⟨_, g5, rfl⟩, h _ g5 g3 g4 ⟨_, g1, rfl, rfl⟩ ⟨_, g2, rfl, rfl⟩ fun c o x => up c o (Heap.get?_push_of_some _ x)⟩

def iZip (K : PySem.W.Frag) (p : Bool) (ta : TA) : TI := fun σ H R => ta σ H fun vs H1 => ∃ a b xs ys, vs = [.ref a, .ref b] ∧ SqB K p H1 a xs ∧ SqB K p H1 b ys ∧ R (Itz K p p a b) H1
theorem boot_zip : bootBuiltins "zip" = some (.type "zip") := by first | exact PySem.boot_zip | decide +kernel
theorem pi_zip {X : Cx} {p : Bool} {es : List Expr} {k : Nat} {tpos : Pos} {a b : Expr} {ta : TA} {pp pos : Pos} (hg : Gl X "zip") (hm : X.mg "zip" = none) (ha : PA X [a, b] ta)
    (hs : starEach [a, b] X.env = [(false, eval a X.env), (false, eval b X.env)] := by rfl) (hs2 : starEach [b] X.env = [(false, eval b X.env)] := by rfl) :
    PI X (.Tuple es k tpos) (.Call (.Name "zip" pp) [a, b] [] pos) (iZip X.K p ta) := by
  intro pins s σ H R I h
  refine Call_ (ld_blt I hg hm boot_zip (PyProof.Rows.callWith_type1 (thn (ha pos pins s σ H _ I h) fun us s1 ⟨vs, H1, I1, r1, q1⟩ => ?_) (by rw [hs, hs2]) (by rw [hs2]; rfl)))
  obtain ⟨l1, l2, xs, ys, e, hq1, hq2, q⟩ := q1
  subst e
  cases r1 with
  | cons r rr =>
    cases rr with
    | cons r' rr =>
      cases rr
      cases r
      cases r'
      obtain ⟨its1, rv1, p1, _⟩ := I1.seqB hq1
      obtain ⟨its2, rv2, p2, _⟩ := I1.seqB hq2
      have hlt : ∀ {tp : Bool} {l : Addr} {its : Array Value}, SeB tp s1.heap l its → l < s1.heap.objs.size := fun {tp l its} h => by
        cases tp with
        | true => obtain ⟨o, e, _⟩ := (show s1.heap.IsTuple l its from h); exact Heap.lt_size e
        | false => obtain ⟨o, e, _⟩ := (show s1.heap.IsList l its from h); exact Heap.lt_size e
      have D : ZipApart (s1.heap.objs.size + 4) (s1.heap.objs.size + 2) (s1.heap.objs.size + 3) s1.heap.objs.size (s1.heap.objs.size + 1) l1 l2 := zipApart_new (hlt p1) (hlt p2)
      have fin : ∀ h', IsZip h' (s1.heap.objs.size + 4) (s1.heap.objs.size + 2) (s1.heap.objs.size + 3) .none → IsPair h' (s1.heap.objs.size + 2) (.ref s1.heap.objs.size) (.ref (s1.heap.objs.size + 1)) →
          IsPair h' (s1.heap.objs.size + 3) .none .none → ItB p h' s1.heap.objs.size l1 0 → ItB p h' (s1.heap.objs.size + 1) l2 0 → (∀ c o, s1.heap.get? c = some o → h'.get? c = some o) →
          wpAny (model X.prog X.w) X.A (pyIter (.ref (s1.heap.objs.size + 4))) (PIE X pins σ (.Tuple es k tpos) R) X.xe { s1 with heap := h' } := fun h' hz hTI hTO h1 h2 kk => by
        refine wpAny_pyIter_zip (s := { s1 with heap := h' }) hz ?_
        refine ⟨_, _, _, _, H1, rfl, I1.kept (t' := s1.toks) kk, turn_zip D, ⟨hz, hTI, ⟨_, _, hTO⟩, h1, h2⟩, fun b hb => ?_, q⟩
        have hge : s1.heap.objs.size ≤ b := by
          simp only [List.mem_cons, List.not_mem_nil, or_false] at hb
          rcases hb with rfl | rfl | rfl | rfl | rfl
          · exact Nat.le_add_right _ _
          · exact Nat.le_add_right _ _
          · exact Nat.le_add_right _ _
          · exact Nat.le_refl _
          · exact Nat.le_add_right _ _
        exact I1.fpOk hge (I1.hok.fresh hge)
      cases p with
      | true => exact call_zip_tt p1 p2 fun h' hz hTI hTO h1 h2 kk => fin h' hz hTI hTO h1 h2 kk
      | false => exact call_zip_2 p1 p2 fun h' hz hTI hTO h1 h2 _ kk => fin h' hz hTI hTO h1 h2 kk
end L2
end
section
set_option Elab.async false
set_option linter.all false
set_option maxRecDepth 100000
namespace L2
open PySem PySem.Spec PyProof.Rows
section
variable {X : Cx}
end
end L2
end
section
set_option Elab.async false
set_option linter.all false
set_option maxRecDepth 100000
namespace L2
open PySem PySem.Spec PyProof.Rows
section
variable {X : Cx}
variable {tg : Expr}
end
end L2
end
section
set_option Elab.async false
set_option linter.all false
set_option maxRecDepth 100000
namespace L2
open PySem PySem.Spec PyProof.Rows
abbrev IsZipF (h : Heap) (z TI TO T : Addr) (f : Bool) : Prop :=
  h.get? z = some { cls := .type "zip", dict := none, data := .fields #[rawInt T, .bool f, .bool false, .ref TI, .ref TO], slots := #[] }
section
variable {prog : Program} {w : World} {A : Around} {E : Value → Shared → Prop} {s : Shared}
theorem zip_notfree {z TI TO T : Addr} {f : Bool} {oT : Obj} {Q : Bool → Shared → Prop} (hz : IsZipF s.heap z TI TO T f) (hT : s.heap.get? T = some oT)
    (h : ∀ h₁, IsZipF h₁ z TI TO T true → Heap.SameBut z s.heap h₁ → Q false { s with heap := h₁ }) : wpAny (model prog w) A (Builtin.SmallTypes.ownedTupleIsFree (.ref z)) Q E s := by
  unfold Builtin.SmallTypes.ownedTupleIsFree
  refine wpAny_bind (wpAny_field hz rfl (x := rawInt T) rfl ?_)
  show wpAny _ _ (loadIfAlive ((T : Int).toNat) >>= _) _ _ _
  rw [Int.toNat_natCast]
  refine wpAny_bind (PySem.W.kdx_alive hT ?_)
  show wpAny _ _ (field (.ref z) 1 >>= _) _ _ s
  refine wpAny_bind (wpAny_field hz rfl (x := .bool f) rfl ?_)
  cases f with
  | true => exact wpAny_pure (h s.heap hz (Heap.SameBut.refl _ _))
  | false => exact wpAny_bind (wpAny_setField_rec hz (by simp) fun h₁ hz₁ hs₁ => wpAny_pure (h h₁ hz₁ hs₁))
theorem zipC_end {z TI TO i1 i2 l1 l2 T : Addr} {f : Bool} {oT : Obj} {k : Nat} {xs : Array Value} {Q : Option Value → Shared → Prop} (hh : A.handled = none) (D : ZipApart z TI TO i1 i2 l1 l2)
    (hz : IsZipF s.heap z TI TO T f) (hT : s.heap.get? T = some oT) (hTI : IsPair s.heap TI (.ref i1) (.ref i2))
    (h1 : s.heap.IsListIter i1 l1 k) (hl1 : s.heap.IsList l1 xs) (hx : xs[k]? = none)
    (hQ : ∀ h', (∀ c o, c ≠ z → c ≠ i1 → s.heap.get? c = some o → h'.get? c = some o) → Q none { s with heap := h' }) : wpAny (model prog w) A (pyNext (.ref z)) Q E s := by
  have ty : s.TypeIs (.ref z) "zip" := ⟨_, hz, rfl⟩
  unfold pyNext
  refine wpAny_bind (wpAny_attempt (wpAny_callSpecial?_slot (name := Str.ofString "__next__") ty F.slot_zip_next (wpAny_call_entry F.slot_zip_next ty F.entry_zip_next ?_ (F.args_zip_next_1 _))))
  show wpAny _ _ (field (.ref z) 2 >>= _) _ _ s
  refine wpAny_bind (wpAny_field hz rfl (x := .bool false) rfl ?_)
  show wpAny _ _ (field (.ref z) 3 >>= _) _ _ s
  refine wpAny_bind (wpAny_field hz rfl (x := .ref TI) rfl (wpAny_bind (wpAny_seqItems hTI rfl ?_)))
  show wpAny _ _ (Builtin.SmallTypes.ownedTupleIsFree (.ref z) >>= _) _ _ s
  refine wpAny_bind (zip_notfree hz hT fun h₁ hz₁ hs₁ => ?_)
  simp only [Bool.false_eq_true, if_false]
  refine wpAny_bind ?_
  simp only [List.forIn_toArray, List.forIn_cons, List.forIn_nil]
  refine wpAny_bind (wpAny_bind (wpAny_holding ?_))
  show wpAny _ _ (Builtin.SmallTypes.nextOf (.ref i1) >>= _) _ _ _
  refine wpAny_bind (draw_end (tp := false) hh (h1.at fun o e => hs₁.extBut _ _ D.i1z e) (hl1.at fun o e => hs₁.extBut _ _ D.l1z e) hx fun h₂ e hs₂ he => ?_)
  obtain ⟨oe, hoe, hce⟩ := he
  exact wpAny_bind (wpAny_isInstance (T := "StopIteration") (b := true) ⟨oe, hoe, hce⟩ isSubtype_stop (wpAny_pure (hQ _ fun c o c1 c2 q => hs₂ _ _ c2 (hs₁.extBut _ _ c1 q))))
structure ZipSt (h : Heap) (S z TI TO i1 i2 l1 l2 : Addr) (xs ys : List Value) (i : Nat) (ts : List Addr) : Prop where
  zs : (ts = [] ∧ IsZip h z TI TO .none) ∨ ∃ T f, T ∈ ts ∧ IsZipF h z TI TO T f
  tI : IsPair h TI (.ref i1) (.ref i2)
  tO : ∃ a b, IsPair h TO a b
  a1 : h.IsListIter i1 l1 i
  a2 : h.IsListIter i2 l2 i
  b1 : h.IsList l1 xs.toArray
  b2 : h.IsList l2 ys.toArray
  len : ts.length = i
  nd : ts.Nodup
  up : ∀ t ∈ ts, S < t
  prs : ∀ (j : Nat) t, ts[j]? = some t → ∃ x y, xs[j]? = some x ∧ ys[j]? = some y ∧ IsPair h t x y
theorem ZipSt.stop {S z TI TO i1 i2 l1 l2 : Addr} {xs ys : List Value} {ts : List Addr} {Q : Option Value → Shared → Prop} (hh : A.handled = none) (D : ZipApart z TI TO i1 i2 l1 l2) (q : ZipSt s.heap S z TI TO i1 i2 l1 l2 xs ys xs.length ts)
    (hQ : ∀ h', (∀ c o, c ≠ z → c ≠ TO → c ≠ i1 → c ≠ i2 → s.heap.get? c = some o → h'.get? c = some o) → Q none { s with heap := h' }) : wpAny (model prog w) A (pyNext (.ref z)) Q E s := by
  obtain ⟨zs, tI, ⟨a, b, tO⟩, a1, a2, b1, b2, len, nd, up, prs⟩ := q
  have ex : xs.toArray[xs.length]? = none := by simp
  rcases zs with ⟨rfl, hz⟩ | ⟨T, f, hT, hz⟩
  · exact zipB_end (p := false) (q := false) hh D hz tI tO a1 a2 b1 b2 (.inl ex) hQ
  · obtain ⟨j, hj⟩ := List.mem_iff_getElem?.mp hT
    obtain ⟨_, _, _, _, eT⟩ := prs j T hj
    exact zipC_end hh D hz eT tI a1 b1 ex fun h' kk => hQ h' fun c o c1 _ c3 _ e => kk c o c1 c3 e
end
end L2
end
section
set_option Elab.async false
set_option linter.all false
set_option maxRecDepth 100000
namespace L2
open PySem PySem.Spec PyProof.Rows
section
variable {prog : Program} {w : World} {A : Around} {E : Value → Shared → Prop} {s : Shared} {R : Result → Shared → Prop}
end
end L2
end
section
set_option Elab.async false
set_option linter.all false
set_option maxRecDepth 100000
namespace L2
open PySem PySem.Spec PyProof.Rows
end L2
end
section
set_option Elab.async false
set_option linter.all false
set_option maxRecDepth 100000
namespace L2
open PySem PySem.Spec PyProof.Rows
inductive A2 {α β : Type} (R : α → β → Prop) : List α → List β → Prop
  | nil : A2 R [] []
  | cons {a : α} {b : β} {as : List α} {bs : List β} (h : R a b) (t : A2 R as bs) : A2 R (a :: as) (b :: bs)
theorem A2.imp {α β : Type} {R S : α → β → Prop} (f : ∀ a b, R a b → S a b) {as : List α} {bs : List β} (h : A2 R as bs) : A2 S as bs := by
  induction h with
  | nil => exact .nil
  | cons h _ ih => exact .cons (f _ _ h) ih
theorem A2.app {α β : Type} {R : α → β → Prop} {as as' : List α} {bs bs' : List β} (h : A2 R as bs) (g : A2 R as' bs') : A2 R (as ++ as') (bs ++ bs') := by
  induction h with
  | nil => exact g
  | cons h _ ih => exact .cons h ih
theorem A2.snoc {α β : Type} {R : α → β → Prop} {as : List α} {bs : List β} {a : α} {b : β} (h : A2 R as bs) (g : R a b) : A2 R (as ++ [a]) (bs ++ [b]) := h.app (.cons g .nil)
theorem A2.len {α β : Type} {R : α → β → Prop} {as : List α} {bs : List β} (h : A2 R as bs) : as.length = bs.length := by
  induction h with
  | nil => rfl
  | cons _ _ ih => exact congrArg (· + 1) ih
theorem A2.get {α β : Type} {R : α → β → Prop} {as : List α} {bs : List β} (h : A2 R as bs) : ∀ {i : Nat} {a : α}, as[i]? = some a → ∃ b, bs[i]? = some b ∧ R a b := by
  induction h with
  | nil => intro i a e; simp at e
  | cons h _ ih =>
    intro i a e
    cases i with
    | zero => cases e; exact ⟨_, rfl, h⟩
    | succ i => exact ih e
theorem vals_at {xs : List V} {us : List Value} (r : Vals xs us) : ∀ {j : Nat} {u : Value}, us[j]? = some u → ∃ x, xs[j]? = some x ∧ RelV x u := by
  induction r with
  | nil => intro j u e; simp at e
  | cons h _ ih =>
    intro j u e
    cases j with
    | zero => cases e; exact ⟨_, rfl, h⟩
    | succ j => exact ih e
section
variable {X : Cx} {pins : List (Addr × Obj)} {σ : List (Option V)} {H : Hp} {s : Shared} {A : Around}
theorem eqAt_parts (I : Inv X pins σ H s) {ss tt : List Str} {its its2 : List Value} (r : Vals (ss.map V.str) its) (r2 : Vals (tt.map V.str) its2) (j : Nat) (h1 : j < its.toArray.size) (h2 : j < its2.toArray.size) : SeqAt.EqAt A s its.toArray[j] its2.toArray[j] (decide (ss[j]? = tt[j]?)) := by
  have g1 : its[j]? = some its.toArray[j] := by simp
  have g2 : its2[j]? = some its2.toArray[j] := by simp
  obtain ⟨x, e1, q1⟩ := vals_at r g1
  obtain ⟨y, e2, q2⟩ := vals_at r2 g2
  rw [List.getElem?_map, Option.map_eq_some_iff] at e1 e2
  obtain ⟨a, e1, rfl⟩ := e1
  obtain ⟨b, e2, rfl⟩ := e2
  obtain ⟨t, q1⟩ := q1
  obtain ⟨t2, q2⟩ := q2
  rw [q1, q2, e1, e2]
  have := SeqAt.EqAt.str_str (A := A) (s := s) a t b t2
  have e : (a == b) = decide (some a = some b) := by
    by_cases h : a = b
    · subst h; simp
    · simp [h]
  rwa [e] at this
end
section
variable {X : Cx}
open Classical in
end
section
variable {X : Cx} {pins : List (Addr × Obj)} {σ : List (Option V)} {H : Hp} {s : Shared}
end
end L2
end
section
set_option Elab.async false
set_option linter.all false
set_option maxRecDepth 100000
namespace L2
open PySem PySem.Spec PyProof.Rows
section
variable {X : Cx}
theorem op_le_str : OpR X (compareOp .LtE) (fun x y H Q => ∃ i j, x = .str i ∧ y = .str j ∧ Q (.bl (!decide (j.cps.toList < i.cps.toList))) H) := by
  intro pins s σ H x y v u Q I rx ry h
  obtain ⟨i, j, rfl, rfl, q⟩ := h
  obtain ⟨t, rfl⟩ := rx
  obtain ⟨t', rfl⟩ := ry
  exact PySem.P.le_str (fin_bl I q rfl)
theorem op_isB : OpR X (compareOp .Is) (fun x y H Q => ∃ i j, x = .bl i ∧ y = .bl j ∧ Q (.bl (i == j)) H) := by
  intro pins s σ H x y v u Q I rx ry h
  obtain ⟨i, j, rfl, rfl, q⟩ := h
  cases rx
  cases ry
  exact is_bool (fin_bl I q rfl)
theorem op_isntB : OpR X (compareOp .IsNot) (fun x y H Q => ∃ i j, x = .bl i ∧ y = .bl j ∧ Q (.bl (i != j)) H) := by
  intro pins s σ H x y v u Q I rx ry h
  obtain ⟨i, j, rfl, rfl, q⟩ := h
  cases rx
  cases ry
  exact isnot_bool (fin_bl I q rfl)
end
abbrev sgn (c : Nat) : V := .str ⟨#[c]⟩
def Its (x : Str) : It := ⟨fun i _ => i < x.cps.size, fun i H v H' => H' = H ∧ ∃ c, x.cps[i]? = some c ∧ v = sgn c, fun i _ => i = x.cps.size⟩
theorem turn_str {P : Program} {w : World} {K : PySem.W.Frag} {tg : Expr} (x : Str) (t : Tok) (it : Addr) : Turn P w K tg (Its x) [it] it (fun i h => h.IsStrIter it (strIterType x) x t i) where
  mem := by simp
  obj := fun i h st b hb => by
    have e : b = it := by simpa using hb
    subst e
    obtain ⟨o, e, c, d⟩ := st
    exact ⟨o, e, fun v z => by rw [d] at z; cases z⟩
  keep := fun i h h' st k => by
    obtain ⟨o, e, c, d⟩ := st
    exact ⟨o, k it (by simp) o e, c, d⟩
  item := by
    intro X hP hw hK hc i pins s σ H E I hf st hg
    subst hP hw hK
    obtain ⟨f0, f1, f2, f3, f4, f5⟩ := hf it (by simp)
    have W : Walks X.prog X.w X.A it [it] [it] x.cps.size (SignAt x) fun i h => h.IsStrIter it (strIterType x) x t i := by
      unfold strIterType
      split
      · exact Walks.strAscii (I.ok.hd hc) it x t
      · exact Walks.strWide (I.ok.hd hc) it x t
    refine W.item i s _ _ hg st fun v h' tk hv st' kk => ?_
    obtain ⟨c, u, hc', rfl⟩ := hv
    have I1 : Inv X pins σ H { s with heap := h', toks := tk } := I.turned (fun b o hb e => kk b o (by simpa using hb) e) f0 f1 f3 f4 f5
    obtain ⟨o, e, cl, d⟩ := id st'
    refine ⟨_, rfl, go_of (s := { s with heap := h', toks := tk }) e cl d (by unfold strIterType; split <;> decide) ⟨sgn c, H, I1, ⟨u, rfl⟩, ⟨rfl, c, hc', rfl⟩, st', fun b hb => (hf b hb).1⟩⟩
  done := by
    intro X hP hw hK hc i pins s σ H E I hf st hg
    subst hP hw hK
    obtain ⟨f0, f1, f2, f3, f4, f5⟩ := hf it (by simp)
    have W : Walks X.prog X.w X.A it [it] [it] x.cps.size (SignAt x) fun i h => h.IsStrIter it (strIterType x) x t i := by
      unfold strIterType
      split
      · exact Walks.strAscii (I.ok.hd hc) it x t
      · exact Walks.strWide (I.ok.hd hc) it x t
    have hg : i = x.cps.size := hg
    subst hg
    exact W.done s _ _ st fun h' tk kk => ⟨rfl, I.turned (fun b o hb e => kk b o (by simpa using hb) e) f0 f1 f3 f4 f5⟩
  self := fun A i s Q E st h => by
    revert st
    unfold strIterType
    split
    · exact fun st => wpAny_pyIter_striter_ascii st h
    · exact fun st => wpAny_pyIter_striter_wide st h
section
variable {X : Cx} {tg : Expr}
def iStr (tl : TE) : TI := fun σ H R => tl σ H fun v H1 => ∃ x, v = .str x ∧ R (Its x) H1
theorem pi_str {l : Expr} {tl : TE} (hl : PE X l tl) : PI X tg l (iStr tl) := by
  intro pins s σ H R I h
  refine thn (hl pins s σ H _ I h) fun v s1 ⟨x, H1, I1, r1, q1⟩ => ?_
  obtain ⟨y, e, q⟩ := q1
  subst e
  obtain ⟨t, rfl⟩ := r1
  refine wpAny_pyIter_strU ?_
  refine ⟨s1.heap.objs.size, [s1.heap.objs.size], _, _, H1, rfl, I1.kept (t' := s1.toks) fun b o e => Heap.get?_push_of_some _ e, turn_str y t _, ⟨_, Heap.get?_push_size _ rfl, rfl, rfl⟩, fun b hb => ?_, q⟩
  have e : b = s1.heap.objs.size := by simpa using hb
  subst e
  exact I1.fpOk (Nat.le_refl _) (I1.hok.fresh (Nat.le_refl _))
end
theorem compW_str {x : Str} {g : TG} {tt : TT} {te : TE} {D : Addr} {σ0 : St} {H0 : Hp} {Q : Hp → Prop} (Pv : Nat → St → Hp → Prop) (h0 : Pv 0 σ0 H0)
    (hs : ∀ i c σ H, x.cps[i]? = some c → Pv i σ H → g (sgn c) σ H fun σ2 H2 => tt σ2 H2 fun b H3 => if b = true then te σ2 H3 fun v H4 => ∃ ys, H4 D = some (.lst ys) ∧ ys.length < sizeLine ∧ Pv (i + 1) σ2 (upd H4 D (.lst (ys ++ [v]))) else Pv (i + 1) σ2 H3)
    (hd : ∀ σ H, Pv x.cps.size σ H → Q H) : CompW (Its x) g tt te D σ0 H0 Q := by
  refine ⟨fun i m σ H => m = x.cps.size - i ∧ i ≤ x.cps.size ∧ Pv i σ H, ⟨x.cps.size, by simp, Nat.zero_le _, h0⟩, ?_⟩
  rintro i m σ H ⟨hm, hi, p⟩
  by_cases e : i = x.cps.size
  · subst e
    exact .inl ⟨rfl, hd _ _ p⟩
  · have hlt : i < x.cps.size := by omega
    refine .inr ⟨hlt, Pv (i + 1), fun σ' H' p' => ⟨x.cps.size - (i + 1), by omega, rfl, hlt, p'⟩, fun v H' y => ?_⟩
    obtain ⟨rfl, c, hc, rfl⟩ := y
    exact hs i c σ _ hc p
def KDict (K : PySem.W.Frag) (P : Program) (w : World) (a : Addr) (kvs : List (Key × V)) : Prop := ∀ h : Heap, K.In h → (a == sysModules) = false ∧ ∃ vs, KV kvs vs ∧ h.DictOf (mixKind P w) a vs
def tKGet (K : PySem.W.Frag) (P : Program) (w : World) (td ty : TE) : TE := fun σ H Q => td σ H fun x H1 => ty σ H1 fun y H2 => ∃ a kvs k v, x = .ref a ∧ KDict K P w a kvs ∧ y = .str k ∧ valV kvs (.inr k) = some v ∧ Q v H2
def tKNotIn (K : PySem.W.Frag) (P : Program) (w : World) (ty td : TE) : TE := fun σ H Q => ty σ H fun y H1 => td σ H1 fun x H2 => ∃ a kvs k, x = .ref a ∧ KDict K P w a kvs ∧ y = .str k ∧ Q (.bl (!(valV kvs (.inr k)).isSome)) H2
section
variable {X : Cx} {o i e value : Expr} {pos : Pos} {td ty : TE}
theorem pe_kget (ho : PE X o td) (hi : PE X i ty) (hs : NoSl i) : PE X (.Subscript o i pos) (tKGet X.K X.prog X.w td ty) := by
  intro pins s σ H Q I h
  refine subD_of PySem.F.slot_dict_getitem.lookup hs (thn (ho pins s σ H _ I h) fun u s1 ⟨x, H1, I1, rx, q1⟩ => thn (hi pins s1 σ H1 _ I1 q1) fun iv s2 ⟨y, H2, I2, ry, a, kvs, k, v, ex, g, ey, l, q2⟩ => ?_)
  subst ex ey
  obtain rfl : u = Value.ref a := rx
  obtain ⟨hd, vs, rel, dd⟩ := g _ I2.kIn
  obtain ⟨w', hw, rw'⟩ := RelO.some_of (v := v) (o := valueAt vs (.inr k)) (by rw [← l]; exact rel.val _)
  exact ⟨dd.typeIs, wpAny_getItem_of (kV_is (k := .inr k) ry) dd.mapOf hw ⟨v, H2, I2.tok _, rw', q2⟩⟩
theorem pc_knotin (hi : PE X i ty) (ho : PE X o td) : PC X .NotIn i o (tKNotIn X.K X.prog X.w ty td) := by
  intro pins s σ H Q I h
  refine thn (hi pins s σ H _ I h) fun iv s1 ⟨y, H1, I1, ry, q1⟩ => thn (ho pins s1 σ H1 _ I1 q1) fun u s2 ⟨x, H2, I2, rx, a, kvs, k, ex, g, ey, q2⟩ => ?_
  subst ex ey
  obtain rfl : u = Value.ref a := rx
  obtain ⟨hd, vs, rel, dd⟩ := g _ I2.kIn
  refine wpAny_notIn_of (kV_is (k := .inr k) ry) hd dd.mapOf ?_
  rw [← (rel.val (.inr k)).isSome_eq]
  exact ⟨.bl (!(valV kvs (.inr k)).isSome), H2, I2.tok _, rfl, q2⟩
end
end L2
end
section
set_option Elab.async false
set_option linter.all false
set_option maxRecDepth 100000
namespace L2
open PySem PySem.Spec PyProof.Rows
abbrev byTx (w : World) : Bool := w.params.followText "set-order"
def sOf (e : Int × Value) : Str := match e.2 with
  | .str x _ => x
  | _ => "" 
def EntOk (w : World) (e : Int × Value) : Prop := ∃ x tk, e = (hashStr w x, .str x tk)
inductive SSet (w : World) (h : Heap) (a : Addr) (ss : List Str) : Prop
  | mk (es : Array (Int × Value)) (ep : Nat) (t : SetTable) (h1 : h.get? a = some { cls := .type "set", data := .set es ep t }) (h2 : ∀ e ∈ es.toList, EntOk w e) (h3 : ss = es.toList.map sOf) (h4 : ss.Nodup) (h5 : t.fits es.size = true) (h6 : t.led = !byTx w) (h7 : ss = [] ∨ t.plain = false) : SSet w h a ss
theorem relayAll_led {t : SetTable} {es : Array (Int × Value)} {n : Nat} : (relayAll t es n).2.1.led = t.led ∧ ((relayAll t es n).2.1.plain = t.plain ∨ (relayAll t es n).2.1.plain = false) := by
  unfold relayAll
  split
  · rename_i t' order e
    have e2 : t'.led = t.led ∧ t'.plain = t.plain := by
      unfold SetTable.relaid SetTable.laid at e
      cases q : SetTable.layClean (SetTable.sizeAbove n - 1) (Array.map (fun x => x.fst) es) with
      | none => rw [q] at e; cases e
      | some ow => rw [q] at e; cases e; exact ⟨rfl, rfl⟩
    dsimp only
    split
    · exact ⟨e2.1, .inl e2.2⟩
    · exact ⟨rfl, .inr rfl⟩
  · exact ⟨rfl, .inr rfl⟩
theorem layNew_led {t : SetTable} {es : Array (Int × Value)} {h : Int} {x : Value} : (layNew t es h x).2.1.led = t.led ∧ ((layNew t es h x).2.1.plain = t.plain ∨ (layNew t es h x).2.1.plain = false) := by
  unfold layNew
  split
  · split
    rename_i t' p e
    have e2 : t'.led = t.led ∧ t'.plain = t.plain := by
      unfold SetTable.put at e
      cases e
      exact ⟨rfl, rfl⟩
    dsimp only
    unfold SetTable.orStandIn
    split
    · exact ⟨e2.1, .inl e2.2⟩
    · exact ⟨e2.1, .inr rfl⟩
  · exact ⟨rfl, .inr rfl⟩
theorem entOk_scan {w : World} {e : Int × Value} (h : EntOk w e) : e.2.scannable = true := by obtain ⟨x, tk, rfl⟩ := h; rfl
theorem entOk_key {w : World} {e : Int × Value} (h : EntOk w e) : isExactStrKey e.2 = true := by obtain ⟨x, tk, rfl⟩ := h; rfl
theorem entOk_is {w : World} {e : Int × Value} {s : Str} (h : EntOk w e) : e.2.isStr s = (sOf e == s) := by obtain ⟨x, tk, rfl⟩ := h; rfl
section
variable {prog : Program} {w : World} {A : Around} {E : Value → Shared → Prop} {s : Shared}
theorem ss_add {a : Addr} {ss : List Str} {x : Str} {tk : Tok} {Q : Bool → Shared → Prop} (S : SSet w s.heap a ss) (hn : ss.length < 1000)
    (hQ : ∀ (h' : Heap) (ss' : List Str) (b : Bool), Heap.SameBut a s.heap h' → SSet w h' a ss' → (x ∈ ss → ss' = ss) → (x ∉ ss → ss'.Perm (x :: ss)) → Q b { s with heap := h', toks := s.toks + 1 }) : wpAny (model prog w) A (setAdd a (.str x tk)) Q E s := by
  obtain ⟨es, ep, t, h1, h2, h3, h4, h5, h6, h7⟩ := S
  have hsz : es.size = ss.length := by rw [h3, List.length_map, Array.length_toList]
  unfold setAdd
  refine wpAny_holding (wpAny_bind (wpAny_pyHash_str ?_))
  unfold setAddHashed
  refine wpAny_holding ?_
  rw [setAddHashedIn.eq_def]
  dsimp only
  refine wpAny_bind (wpAny_setState_of (s := { s with toks := s.toks + 1 }) h1 rfl h5 ?_)
  dsimp only
  have hb : byScan (.str x tk) es = true := by
    unfold byScan
    rw [Bool.and_eq_true, Bool.and_eq_true]
    refine ⟨⟨rfl, decide_eq_true (by rw [hsz]; exact Nat.lt_trans hn (by decide))⟩, ?_⟩
    rw [Array.all_eq_true']
    intro e he
    exact entOk_scan (h2 e (by simpa using he))
  rw [if_pos hb]
  refine wpAny_bind ?_
  unfold setAddByScan
  refine wpAny_bind (wpAny_rule ?_)
  refine wpAny_bind ?_
  unfold setScan
  dsimp only
  have hk : (es.all fun e => isExactStrKey e.snd) = true := by
    rw [Array.all_eq_true']
    intro e he
    exact entOk_key (h2 e (by simpa using he))
  rw [if_pos hk]
  unfold setScanStrs
  cases hf : Array.findIdx? (fun y => y.snd.isStr x) es with
  | some i =>
    obtain ⟨hi, hp, _⟩ := Array.findIdx?_eq_some_iff_getElem.mp hf
    have hm : es[i] ∈ es.toList := by simp
    obtain ⟨y, tk', he⟩ := h2 _ hm
    have hxy : y = x := by
      rw [he] at hp
      exact beq_iff_eq.mp (show (y == x) = true from hp)
    subst hxy
    dsimp only
    rw [Array.getElem?_eq_getElem hi, he]
    dsimp only
    refine wpAny_bind ?_
    unfold setEpoch
    refine wpAny_bind (wpAny_setState_of (s := { s with toks := s.toks + 1 }) h1 rfl h5 (wpAny_pure ?_))
    refine wpAny_bind (wpAny_eqBool_str ?_)
    rw [decide_eq_true rfl]
    refine wpAny_pure (wpAny_pure (wpAny_pure ?_))
    have hx : y ∈ ss := by
      rw [h3]
      refine List.mem_map.mpr ⟨_, hm, ?_⟩
      rw [he]; rfl
    exact hQ s.heap ss false (Heap.SameBut.refl _ _) ⟨es, ep, t, h1, h2, h3, h4, h5, h6, h7⟩ (fun _ => rfl) (fun n => absurd hx n)
  | none =>
    have hx : x ∉ ss := by
      rw [h3]
      intro hm
      obtain ⟨e, he, hs⟩ := List.mem_map.mp hm
      have := Array.findIdx?_eq_none_iff.mp hf e (by simpa using he)
      rw [entOk_is (h2 e he), hs] at this
      simp at this
    refine wpAny_pure ?_
    dsimp only
    have p1 := layNew_perm t es (hashStr w x) (.str x tk)
    have f1 := layNew_fits t es (hashStr w x) (.str x tk)
    have l1 := layNew_led (t := t) (es := es) (h := hashStr w x) (x := .str x tk)
    generalize layNew t es (hashStr w x) (.str x tk) = r at p1 f1 l1 ⊢
    obtain ⟨es1, t1, wd, gv⟩ := r
    dsimp only at p1 f1 l1 ⊢
    have hz1 : es1.size = ss.length + 1 := by
      have := p1.length_eq
      rw [Array.length_toList, Array.length_toList, Array.size_push, hsz] at this
      exact this
    refine wpAny_bind ?_
    have hzl : es1.size ≤ sizeLine := by rw [hz1]; exact Nat.le_of_lt (small1000 (by omega))
    have hE : ∀ e ∈ es1.toList, EntOk w e := by
      intro e he
      have := p1.mem_iff.mp he
      rw [Array.toList_push, List.mem_append, List.mem_singleton] at this
      rcases this with h | rfl
      · exact h2 e h
      · exact ⟨x, tk, rfl⟩
    have hP : (es1.toList.map sOf).Perm (x :: ss) := by
      have h := p1.map sOf
      rw [Array.toList_push, List.map_append, ← h3] at h
      exact h.trans List.perm_append_comm
    have hN : (x :: ss).Nodup := List.nodup_cons.mpr ⟨hx, h4⟩
    have mkS : ∀ {h' : Heap} {es2 : Array (Int × Value)} {ep2 : Nat} {t2 : SetTable}, h'.get? a = some { cls := .type "set", data := .set es2 ep2 t2 } → es2.toList.Perm es1.toList → t2.fits es2.size = true → t2.led = t.led → t2.plain = false → SSet w h' a (es2.toList.map sOf) ∧ (es2.toList.map sOf).Perm (x :: ss) := fun g p f l pl =>
      have q := (p.map sOf).trans hP
      ⟨⟨_, _, _, g, fun e he => hE e (p.mem_iff.mp he), rfl, q.nodup_iff.mpr hN, f, l.trans h6, .inr pl⟩, q⟩
    have fin : ∀ (G : Bool → Sem Unit), (∀ b (Q : Unit → Shared → Prop) s, Q () s → wpAny (model prog w) A (G b) Q E s) → ∀ {t2 : SetTable}, t2.fits es1.size = true → t2.led = t.led → t2.plain = false →
        ∀ (Q2 : Option Bool → Shared → Prop), (∀ (h' : Heap) (ss' : List Str), Heap.SameBut a s.heap h' → SSet w h' a ss' → ss'.Perm (x :: ss) → Q2 (some true) { s with heap := h', toks := s.toks + 1 }) →
        wpAny (model prog w) A (storeSet a es1 t2 >>= fun _ => if (!wd && t2.tooFull) = true then (G (relayAll t2 es1 (SetTable.grown es1.size)).2.2 >>= fun _ => storeSet a (relayAll t2 es1 (SetTable.grown es1.size)).1 (relayAll t2 es1 (SetTable.grown es1.size)).2.1 >>= fun _ => pure (some true)) else pure (some true)) Q2 E { s with toks := s.toks + 1 } := by
      intro G hG t2 ft lt pt Q2 q
      refine wpAny_bind (wpAny_storeSet_of (s := { s with toks := s.toks + 1 }) h1 rfl ?_ hzl)
      have g1 : (s.heap.update a (Obj.putSet es1 t2)).get? a = some { cls := .type "set", data := .set es1 (ep + 1) t2 } := Heap.get?_update_self _ h1 rfl
      have sb1 := Heap.SameBut.update s.heap a (Obj.putSet es1 t2)
      split
      · refine wpAny_bind (hG _ _ _ ?_)
        have p2 := relayAll_perm t2 es1 (SetTable.grown es1.size)
        have f2 := relayAll_fits t2 es1 (SetTable.grown es1.size)
        have l2 := relayAll_led (t := t2) (es := es1) (n := SetTable.grown es1.size)
        generalize relayAll t2 es1 (SetTable.grown es1.size) = r at p2 f2 l2 ⊢
        have hz2 : r.1.size ≤ sizeLine := by
          have := p2.length_eq
          rw [Array.length_toList, Array.length_toList] at this
          rw [this]; exact hzl
        refine wpAny_bind (wpAny_storeSet_of (s := { s with heap := s.heap.update a (Obj.putSet es1 t2), toks := s.toks + 1 }) g1 rfl (wpAny_pure ?_) hz2)
        have g2 : ((s.heap.update a (Obj.putSet es1 t2)).update a (Obj.putSet r.1 r.2.1)).get? a = some { cls := .type "set", data := .set r.1 (ep + 1 + 1) r.2.1 } := Heap.get?_update_self _ g1 rfl
        obtain ⟨S2, q2⟩ := mkS g2 p2 f2 (l2.1.trans lt) (l2.2.elim (fun z => z.trans pt) id)
        exact q _ _ (sb1.trans (Heap.SameBut.update _ a _)) S2 q2
      · obtain ⟨S2, q2⟩ := mkS g1 (List.Perm.refl _) ft lt pt
        exact wpAny_pure (q _ _ sb1 S2 q2)
    have out : ∀ (h' : Heap) (ss' : List Str), Heap.SameBut a s.heap h' → SSet w h' a ss' → ss'.Perm (x :: ss) → wpAny (model prog w) A (pure true : Sem Bool) Q E { s with heap := h', toks := s.toks + 1 } := fun h' ss' sb S p => wpAny_pure (hQ h' ss' true sb S (fun z => absurd z hx) fun _ => p)
    have fit' : ∀ p : Bool, ({ t1 with plain := p } : SetTable).fits es1.size = true := fun _ => f1
    cases gv
    · refine wpAny_pure ?_
      cases hpl : t1.plain with
      | true =>
        rw [if_pos rfl, hashByValue_scannable 8 rfl]
        refine wpAny_bind (wpAny_pure ?_)
        refine fin _ ?_ (t2 := { t1 with plain := false }) (fit' false) l1.1 rfl _ out
        intro b Q s h
        cases b
        · exact wpAny_pure h
        · exact wpAny_rule h
      | false =>
        rw [if_neg Bool.false_ne_true]
        refine wpAny_bind (wpAny_pure ?_)
        refine fin _ ?_ (t2 := t1) f1 l1.1 hpl _ out
        intro b Q s h
        cases b
        · exact wpAny_pure h
        · exact wpAny_rule h
    · refine wpAny_rule ?_
      cases hpl : t1.plain with
      | true =>
        rw [if_pos rfl, hashByValue_scannable 8 rfl]
        refine wpAny_bind (wpAny_pure ?_)
        refine fin _ ?_ (t2 := { t1 with plain := false }) (fit' false) l1.1 rfl _ out
        intro b Q s h
        cases b
        · exact wpAny_pure h
        · exact wpAny_rule h
      | false =>
        rw [if_neg Bool.false_ne_true]
        refine wpAny_bind (wpAny_pure ?_)
        refine fin _ ?_ (t2 := t1) f1 l1.1 hpl _ out
        intro b Q s h
        cases b
        · exact wpAny_pure h
        · exact wpAny_rule h
end
end L2
end
section
set_option Elab.async false
set_option linter.all false
set_option maxRecDepth 100000
namespace L2
open PySem PySem.Spec PyProof.Rows
theorem plain_sul : plainId "set.update.loop" = true := by decide +kernel
theorem entry_sul : entryFor table "set.update.loop" = some Builtin.«set.update.loop» := entryFor_of_fast (by kernel_rfl)
theorem SSet.at {w : World} {h h' : Heap} {a : Addr} {ss : List Str} (S : SSet w h a ss) (k : ∀ o, h.get? a = some o → h'.get? a = some o) : SSet w h' a ss := by
  obtain ⟨es, ep, t, h1, h2, h3, h4, h5, h6, h7⟩ := S
  exact ⟨es, ep, t, k _ h1, h2, h3, h4, h5, h6, h7⟩
section
variable {prog : Program} {w : World} {A : Around} {E : Value → Shared → Prop} {s : Shared}
theorem ss_loop {R : Result → Shared → Prop} {D I : Addr} {fp wr : List Addr} {xs : List Str} {St : Nat → Heap → Prop} (W : Walks prog w A.in1 I fp wr xs.length (fun i v => ∃ x tk, xs[i]? = some x ∧ v = .str x tk) St) (hD : D ∉ fp) (hz : xs.length < 1000) :
    ∀ (k i : Nat) (s : Shared) (ss : List Str), xs.length - i = k → i ≤ xs.length → St i s.heap → SSet w s.heap D ss → (∀ x, x ∈ ss ↔ x ∈ xs.take i) → ss.length ≤ i →
    (∀ h' tk ss', SSet w h' D ss' → (∀ x, x ∈ ss' ↔ x ∈ xs) → (∀ b o, b ≠ D → b ∉ wr → s.heap.get? b = some o → h'.get? b = some o) → R (.ok (.ret .none)) { s with heap := h', toks := tk }) →
    codeAny (model prog w) A (.builtin "set.update.loop" ⟨[.ref D, .ref I], []⟩) R s := by
  have hDw : D ∉ wr := fun z => hD (W.sub D z)
  intro k
  induction k with
  | zero =>
    intro i s ss hk hi st S hm hl hR
    have e : i = xs.length := by omega
    subst e
    refine codeAny_builtin entry_sul ?_
    rw [Around.under_plainId plain_sul _]
    show wpAny _ A.in1 (pyNext (.ref I) >>= _) _ _ s
    refine wpAny_bind (W.done s _ _ st fun h' tk kk => wpAny_pure (hR h' tk ss (S.at fun o e => kk D o hDw e) ?_ fun b o _ h2 e => kk b o h2 e))
    rw [List.take_of_length_le (Nat.le_refl _)] at hm
    exact hm
  | succ k ih =>
    intro i s ss hk hi st S hm hl hR
    have hlt : i < xs.length := by omega
    refine codeAny_builtin entry_sul ?_
    rw [Around.under_plainId plain_sul _]
    show wpAny _ A.in1 (pyNext (.ref I) >>= _) _ _ s
    refine wpAny_bind (W.item i s _ _ hlt st fun v h' tk hv st' kk => ?_)
    obtain ⟨x, tx, hx, rfl⟩ := hv
    show wpAny _ A.in1 (holding [.str x tx] _ >>= _) _ _ { s with heap := h', toks := tk }
    refine wpAny_bind (wpAny_holding (ss_add (s := { s with heap := h', toks := tk }) (S.at fun o e => kk D o hDw e) (by omega) fun h2 ss2 b sb S2 q1 q2 => ?_))
    refine wpAny_pure ⟨plainId_quiet plain_sul _, ?_⟩
    have eT : xs.take (i + 1) = xs.take i ++ [x] := by rw [List.take_add_one, hx]; rfl
    refine ih (i + 1) { s with heap := h2, toks := tk + 1 } ss2 (by omega) hlt (W.frame _ _ _ st' fun b hb o e => sb.extBut _ _ (fun z => hD (z ▸ hb)) e) S2 ?_ ?_ fun h3 tk3 ss3 S3 m3 k3 => ?_
    · intro y
      rw [eT, List.mem_append, List.mem_singleton, ← hm y]
      by_cases e : x ∈ ss
      · rw [q1 e]
        exact ⟨.inl, fun z => z.elim id fun z => z ▸ e⟩
      · rw [(q2 e).mem_iff, List.mem_cons]
        exact ⟨fun z => z.symm, fun z => z.symm⟩
    · by_cases e : x ∈ ss
      · rw [q1 e]; omega
      · rw [(q2 e).length_eq, List.length_cons]; omega
    · exact hR h3 tk3 ss3 S3 m3 fun b o h1 h4 e => k3 b o h1 h4 (sb.extBut _ _ h1 (kk b o h4 e))
theorem wp_ask {Q : Setting → Shared → Prop} (h : Q { program := prog, params := w.params } s) : wpAny (model prog w) A ask Q E s := fun _ _ _ => h
theorem ss_new {a : Value} {Q₁ : Value → Shared → Prop} (h : Q₁ (.ref s.heap.objs.size) { s with heap := s.heap.push { cls := .type "set", data := .set #[] 0 (SetTable.fresh 0 0 (!byTx w)) } }) :
    codeAny (model prog w) A (.call (.builtin "set.__new__") ⟨[.type "set", a], []⟩) (wants Q₁ E) s := by
  refine codeAny_call_builtin F.plain_set_new F.entry_set_new ?_
  have hc : checkBuiltinCall "set.__new__" ⟨[.type "set", a], []⟩ = pure () := by kernel_rfl
  rw [hc]
  refine wpAny_pure ?_
  unfold Builtin.«set.__new__» Builtin.Frozenset.newClass
  dsimp only
  have hs : isSubtype (.type "set") (.type "set") = pure true := by (rw [isSubtype_type]; kernel_rfl)
  have ht : isType (.type "set") = pure true := by kernel_rfl
  rw [ht]
  refine wpAny_bind (wpAny_bind (wpAny_pure ?_))
  show wpAny _ _ (isSubtype (.type "set") (.type "set") >>= _) _ _ s
  rw [hs]
  refine wpAny_bind (wpAny_pure (wpAny_pure ?_))
  show wpAny _ _ (newSet (.type "set") >>= _) _ _ s
  unfold newSet setsByText
  refine wpAny_bind (wpAny_bind (wpAny_bind (wp_ask (wpAny_pure ?_))))
  show wpAny _ _ (newObj (.type "set") (.set #[] 0 (SetTable.fresh 0 0 (!byTx w)))) _ _ s
  refine wpAny_newObj_type ?_
  exact wpAny_pure h
theorem ss_init {D l : Addr} {T : String} {Q : PySem.Fin → Shared → Prop} (hT : s.TypeIs (.ref l) T) (h1 : isSubtype (.type T) (.type "set") = pure false) (h2 : isSubtype (.type T) (.type "frozenset") = pure false) (h3 : (Value.type T == Value.type "dict") = false)
    (e1 : s.heap.get? D = some { cls := .type "set", data := .set #[] 0 (SetTable.fresh 0 0 (!byTx w)) })
    (h : wpAny (model prog w) A (pyIter (.ref l)) (fun it s1 => codeAny (model prog w) A (.builtin "set.update.loop" ⟨[.ref D, it], []⟩) (wants (fun _ s2 => Q (.done (.ret .none)) s2) E) s1) E s) :
    wpAny (model prog w) A (Builtin.«set.__init__» ⟨[.ref D, .ref l], []⟩) Q E s := by
  have tD : s.TypeIs (.ref D) "set" := ⟨_, e1, rfl⟩
  unfold Builtin.«set.__init__»
  dsimp only
  refine wpAny_bind (wpAny_pure ?_)
  have hn : wpAny (model prog w) A (typeNameOfCut 200 (.ref D)) (fun x s' => s' = s) E s := by
    unfold typeNameOfCut
    repeat (any_goals (first | assumption | rfl | wp_step))
  refine wpAny_bind (thn hn fun x s' e => ?_)
  subst e
  refine wpAny_bind ?_
  show wpAny _ _ (pure ()) _ _ _
  refine wpAny_pure ?_
  show wpAny _ _ (setUsed D >>= _) _ _ _
  unfold setUsed
  refine wpAny_bind (wpAny_bind (wpAny_setState_of e1 rfl rfl (wpAny_pure ?_)))
  show wpAny _ _ (Builtin.Frozenset.updateFrom "set.__init__" D (.ref l) >>= _) _ _ _
  unfold Builtin.Frozenset.updateFrom Builtin.Frozenset.isAnySet
  refine wpAny_bind (wpAny_bind ?_)
  show wpAny _ _ (isInstance (.ref l) (.type "set") >>= _) _ _ _
  refine wpAny_bind (wpAny_isInstance hT h1 ?_)
  show wpAny _ _ (isInstance (.ref l) (.type "frozenset")) _ _ _
  refine wpAny_isInstance hT h2 ?_
  rw [if_neg Bool.false_ne_true]
  refine wpAny_bind (wpAny_typeOf hT ?_)
  rw [h3, if_neg Bool.false_ne_true]
  refine wpAny_bind (thn h fun it s1 h1 => ?_)
  refine wpAny_bind (wpAny_runValue (codeAny_mono h1 fun r s2 q => ?_))
  cases r with
  | error e => exact q
  | ok f =>
    cases f with
    | ret v => exact wpAny_pure (wpAny_pure q)
    | _ => exact q
end
end L2
end
section
set_option Elab.async false
set_option linter.all false
set_option maxRecDepth 100000
namespace L2
open PySem PySem.Spec PyProof.Rows
section
variable {prog : Program} {w : World} {A : Around} {E : Value → Shared → Prop} {s : Shared}
theorem callSet {args : List Value} {Q Q₁ : Value → Shared → Prop} (hc : checkTypeCall "set" ⟨args, []⟩ = pure ())
    (hn : codeAny (model prog w) A.in1 (.call (.builtin "set.__new__") ⟨.type "set" :: args, []⟩) (wants Q₁ E) s)
    (hi : ∀ obj s₁, Q₁ obj s₁ → s₁.TypeIs obj "set" ∧ wpAny (model prog w) A.in1 (call (.builtin "set.__init__") (obj :: args)) (fun r s' => r = .none ∧ Q obj s') E s₁) : wpAny (model prog w) A (call (.type "set") args) Q E s := by
  have T := F.called_set
  obtain ⟨c, tl, hm⟩ := T.mro
  refine wpAny_call (codeAny_of_tree ?_)
  refine wpAny_pure ⟨Code.quiet_builtin _ (by decide +kernel), codeAny_builtin F.entry_type_call ?_⟩
  rw [Around.under_plain (weight_type_call_type _ _ _) (units_type_call_type _ _ _)]
  unfold Builtin.«type.__call__»
  dsimp only
  rw [T.notType]
  rw [if_neg Bool.false_ne_true]
  rw [if_neg (by rw [T.canCreate]; exact Bool.false_ne_true)]
  rw [hc]
  refine wpAny_bind (wpAny_pure ?_)
  rw [hm]
  refine wpAny_bind (wpAny_pure ?_)
  show wpAny _ _ (Bind.madeBy (.type "set") >>= _) _ _ _
  rw [T.made]
  refine wpAny_bind (wpAny_pure ?_)
  dsimp only
  refine wpAny_bind (wpAny_pure ?_)
  refine wpAny_bind (wpAny_holding (wpAny_call (codeAny_mono hn fun r s1 q => ?_)))
  cases r with
  | error e => exact q
  | ok f =>
    cases f with
    | ret obj =>
      have q : Q₁ obj s1 := q
      obtain ⟨ty, hw⟩ := hi obj s1 q
      refine wpAny_bind (wpAny_isInstance ty T.sub ?_)
      show wpAny _ _ (holding [obj] (callSpecial? obj (Str.ofString "__init__") args []) >>= _) _ _ _
      refine wpAny_bind (wpAny_holding (wpAny_callSpecial?_slot ty T.init (thn hw fun r s2 ⟨e, q2⟩ => ?_)))
      subst e
      exact wpAny_pure q2
    | _ => exact q
end
end L2
end
section
set_option Elab.async false
set_option linter.all false
set_option maxRecDepth 100000
namespace L2
open PySem PySem.Spec PyProof.Rows
abbrev setO (w : World) (a : Addr) (ss : List Str) : HO := .ext fun h => SSet w h a ss
theorem setO_ok {P : Program} {w : World} {H : Hp} {h : Heap} {a : Addr} {ss : List Str} (S : SSet w h a ss) : ObjOk P w H h a (setO w a ss) := by
  refine ⟨S, ?_, fun h1 h2 S1 k => S1.at k⟩
  obtain ⟨_, _, _, h1, _⟩ := S
  exact ⟨_, h1⟩
theorem sn_type (a : Value) : checkTypeCall "set" ⟨[a], []⟩ = pure () := by kernel_rfl
section
variable {X : Cx}
def rSet (K : PySem.W.Frag) (w : World) : List V → Hp → VK → Prop := fun vs H Q => ∃ (p : Addr) (xs : List Str), vs = [.ref p] ∧ (SqT K H p (xs.map V.str) ∨ SqL K H p (xs.map V.str)) ∧ xs.length < 1000 ∧ ∀ l ss, H l = none → ss.Nodup → (∀ x, x ∈ ss ↔ x ∈ xs) → Q (.ref l) (upd H l (setO w l ss))
theorem SSet.nd {w : World} {h : Heap} {a : Addr} {ss : List Str} (S : SSet w h a ss) : ss.Nodup := by obtain ⟨_, _, _, _, _, _, h, _⟩ := S; exact h
theorem call_setS (hc : X.calm = true) : CallR X (.type "set") (rSet X.K X.w) := by
  intro pins s σ H vs us Q I r h
  obtain ⟨p, xs, rfl, hq, hz, q⟩ := h
  obtain ⟨u, rfl, rx⟩ := vals1 r
  cases rx
  have hDn : H s.heap.objs.size = none := I.hok.fresh (Nat.le_refl _)
  refine callSet (sn_type _) (Q₁ := fun v s1 => v = .ref s.heap.objs.size ∧ s1 = { s with heap := s.heap.push { cls := .type "set", data := .set #[] 0 (SetTable.fresh 0 0 (!byTx X.w)) } }) (ss_new ⟨rfl, rfl⟩) ?_
  rintro _ _ ⟨rfl, rfl⟩
  have g1 : (s.heap.push { cls := .type "set", data := .set #[] 0 (SetTable.fresh 0 0 (!byTx X.w)) }).get? s.heap.objs.size = some { cls := .type "set", data := .set #[] 0 (SetTable.fresh 0 0 (!byTx X.w)) } := Heap.get?_push_size _ rfl
  have S0 : SSet X.w (s.heap.push { cls := .type "set", data := .set #[] 0 (SetTable.fresh 0 0 (!byTx X.w)) }) s.heap.objs.size [] := ⟨_, _, _, g1, fun e he => by simp at he, rfl, List.nodup_nil, rfl, rfl, .inl rfl⟩
  refine ⟨⟨_, g1, rfl⟩, wpAny_call (codeAny_call_builtin F.slot_set_init.plain F.entry_set_init (check_set_init_1 ⟨_, g1, rfl⟩ ?_))⟩
  generalize hh1 : s.heap.push { cls := .type "set", data := .set #[] 0 (SetTable.fresh 0 0 (!byTx X.w)) } = h1 at g1 S0
  have k1 : ∀ b o, s.heap.get? b = some o → h1.get? b = some o := fun b o e => by rw [← hh1]; exact Heap.get?_push_of_some _ e
  have z1 : h1.objs.size = s.heap.objs.size + 1 := by rw [← hh1, Heap.size_push]
  have last : ∀ (h' : Heap) (tk : Nat) (ss : List Str), SSet X.w h' s.heap.objs.size ss → (∀ x, x ∈ ss ↔ x ∈ xs) → (∀ b o, s.heap.get? b = some o → h'.get? b = some o) → EP X pins σ Q (.ref s.heap.objs.size) { s with heap := h', toks := tk } := fun h' tk ss S m k =>
    ⟨.ref s.heap.objs.size, _, I.laid (t' := tk) k (Nat.le_refl _) (setO_ok S), rfl, q _ _ hDn S.nd m⟩
  rcases hq with hq | hq
  · obtain ⟨its, rv, pt, hzl⟩ := I.tuple hq
    have hl := rv.length
    rw [List.length_map] at hl
    obtain ⟨o, eo, co⟩ := id pt
    have hpl : p < s.heap.objs.size := Heap.lt_size eo
    have pt1 : h1.IsTuple p its.toArray := ⟨o, k1 _ _ eo, co⟩
    have tp : ({ s with heap := h1 } : Shared).TypeIs (.ref p) "tuple" := ⟨o, k1 _ _ eo, co.1⟩
    refine ss_init (s := { s with heap := h1 }) (T := "tuple") tp (by (rw [isSubtype_type]; kernel_rfl)) (by (rw [isSubtype_type]; kernel_rfl)) (by decide) g1 ?_
    refine wpAny_pyIter_tuple (s := { s with heap := h1 }) pt1 ?_
    have W := Walks.tuple (prog := X.prog) (w := X.w) (A := X.A.in1.in1.in1) (I.ok.hd hc) h1.objs.size p (Nat.ne_of_lt (by rw [z1]; exact Nat.lt_succ_of_lt hpl)) its.toArray
    have hlen : its.toArray.size = xs.length := by rw [List.size_toArray, hl]
    rw [hlen] at W
    have W2 : Walks X.prog X.w X.A.in1.in1.in1 h1.objs.size [h1.objs.size, p] [h1.objs.size] xs.length (fun i v => ∃ x tk, xs[i]? = some x ∧ v = .str x tk) _ := W.weaken fun i v hv => by
      have hv : its[i]? = some v := by simpa using hv
      have hi := (List.getElem?_eq_some_iff.mp hv).1
      have hx : xs[i]? = some (xs[i]'(by omega)) := List.getElem?_eq_getElem _
      obtain ⟨u, hu, t, rfl⟩ := rv.get (i := i) (by rw [List.getElem?_map, hx]; rfl)
      rw [hu] at hv
      cases hv
      exact ⟨_, t, hx, rfl⟩
    have hDf : s.heap.objs.size ∉ [h1.objs.size, p] := by
      rw [z1]
      intro z
      rcases List.mem_cons.mp z with z | z
      · exact absurd z (Nat.ne_of_lt (Nat.lt_succ_self _))
      · exact absurd (List.mem_singleton.mp z) (Nat.ne_of_gt hpl)
    refine ss_loop W2 hDf hz xs.length 0 _ [] (Nat.sub_zero _) (Nat.zero_le _) ⟨⟨_, Heap.get?_push_size _ rfl, rfl, rfl⟩, ⟨o, Heap.get?_push_of_some _ (k1 _ _ eo), co⟩⟩ (S0.at fun o e => Heap.get?_push_of_some _ e) (by simp) (Nat.le_refl _) fun h' tk ss S m k => ⟨rfl, ?_⟩
    exact last h' tk ss S m fun b o e => k b o (Nat.ne_of_lt (Heap.lt_size e)) (fun z => absurd (List.mem_singleton.mp z) (Nat.ne_of_lt (by rw [z1]; exact Nat.lt_succ_of_lt (Heap.lt_size e)))) (Heap.get?_push_of_some _ (k1 _ _ e))
  · obtain ⟨its, rv, pl, hzl⟩ := I.list hq
    have hl := rv.length
    rw [List.length_map] at hl
    obtain ⟨o, eo, co⟩ := id pl.isList
    have hpl : p < s.heap.objs.size := Heap.lt_size eo
    have pt1 : h1.IsList p its.toArray := ⟨o, k1 _ _ eo, co⟩
    have tp : ({ s with heap := h1 } : Shared).TypeIs (.ref p) "list" := ⟨o, k1 _ _ eo, co.1⟩
    refine ss_init (s := { s with heap := h1 }) (T := "list") tp (by (rw [isSubtype_type]; kernel_rfl)) (by (rw [isSubtype_type]; kernel_rfl)) (by decide) g1 ?_
    refine wpAny_pyIter_list (s := { s with heap := h1 }) pt1 ?_
    have W := Walks.list (prog := X.prog) (w := X.w) (A := X.A.in1.in1.in1) (I.ok.hd hc) h1.objs.size p (Nat.ne_of_lt (by rw [z1]; exact Nat.lt_succ_of_lt hpl)) its.toArray
    have hlen : its.toArray.size = xs.length := by rw [List.size_toArray, hl]
    rw [hlen] at W
    have W2 : Walks X.prog X.w X.A.in1.in1.in1 h1.objs.size [h1.objs.size, p] [h1.objs.size] xs.length (fun i v => ∃ x tk, xs[i]? = some x ∧ v = .str x tk) _ := W.weaken fun i v hv => by
      have hv : its[i]? = some v := by simpa using hv
      have hi := (List.getElem?_eq_some_iff.mp hv).1
      have hx : xs[i]? = some (xs[i]'(by omega)) := List.getElem?_eq_getElem _
      obtain ⟨u, hu, t, rfl⟩ := rv.get (i := i) (by rw [List.getElem?_map, hx]; rfl)
      rw [hu] at hv
      cases hv
      exact ⟨_, t, hx, rfl⟩
    have hDf : s.heap.objs.size ∉ [h1.objs.size, p] := by
      rw [z1]
      intro z
      rcases List.mem_cons.mp z with z | z
      · exact absurd z (Nat.ne_of_lt (Nat.lt_succ_self _))
      · exact absurd (List.mem_singleton.mp z) (Nat.ne_of_gt hpl)
    refine ss_loop W2 hDf hz xs.length 0 _ [] (Nat.sub_zero _) (Nat.zero_le _) ⟨⟨_, Heap.get?_push_size _ rfl, rfl, rfl⟩, ⟨o, Heap.get?_push_of_some _ (k1 _ _ eo), co⟩⟩ (S0.at fun o e => Heap.get?_push_of_some _ e) (by simp) (Nat.le_refl _) fun h' tk ss S m k => ⟨rfl, ?_⟩
    exact last h' tk ss S m fun b o e => k b o (Nat.ne_of_lt (Heap.lt_size e)) (fun z => absurd (List.mem_singleton.mp z) (Nat.ne_of_lt (by rw [z1]; exact Nat.lt_succ_of_lt (Heap.lt_size e)))) (Heap.get?_push_of_some _ (k1 _ _ e))
end
end L2
end
section
set_option Elab.async false
set_option linter.all false
set_option maxRecDepth 100000
namespace L2
open PySem PySem.Spec PyProof.Rows
theorem entry_si : entryFor table "set.__iter__" = some Builtin.«frozenset.__iter__» := entryFor_alias (id' := "frozenset.__iter__") (by kernel_rfl) rfl (by decide +kernel) (by kernel_rfl)
theorem slot_sin : Slot "set_iterator" "__next__" "set_iterator.__next__" :=
  .of (owner := "set_iterator") (n := "__next__") (by rw [typeLookup_type, builtinLookup_eq_fast]; kernel_rfl) (by decide +kernel) (by decide +kernel) (by decide +kernel)
    (by first | exact .inl (by decide +kernel) | exact .inr (by decide +kernel)) (by rw [isSubtype_type]; kernel_rfl)
theorem entry_sin : entryFor table "set_iterator.__next__" = some Builtin.«set_iterator.__next__» := entryFor_of_fast (by kernel_rfl)
theorem owner_sin : Manifest.owners.lookup (String.ofList ['r', 'o', 't', 'a', 'r', 'e', 't', 'i', '_', 't', 'e', 's'].reverse) = some Manifest.sig_set_iterator := by kernel_rfl
theorem args_sin (a : Value) : argsOk "set_iterator.__next__" ⟨[a], []⟩ := by
  unfold argsOk; rw [signature?_of (id := "set_iterator.__next__") (n := ['_', '_', 't', 'x', 'e', 'n', '_', '_']) (o := ['r', 'o', 't', 'a', 'r', 'e', 't', 'i', '_', 't', 'e', 's']) (by kernel_rfl) owner_sin]; kernel_rfl
theorem slot_sii : Slot "set_iterator" "__iter__" "set_iterator.__iter__" :=
  .of (owner := "set_iterator") (n := "__iter__") (by rw [typeLookup_type, builtinLookup_eq_fast]; kernel_rfl) (by decide +kernel) (by decide +kernel) (by decide +kernel)
    (by first | exact .inl (by decide +kernel) | exact .inr (by decide +kernel)) (by rw [isSubtype_type]; kernel_rfl)
theorem entry_sii : entryFor table "set_iterator.__iter__" = some Builtin.«dict_keyiterator.__iter__» := entryFor_alias (id' := "dict_keyiterator.__iter__") (by kernel_rfl) rfl (by decide +kernel) (by kernel_rfl)
theorem args_sii (a : Value) : argsOk "set_iterator.__iter__" ⟨[a], []⟩ := by
  unfold argsOk; rw [signature?_of (id := "set_iterator.__iter__") (n := ['_', '_', 'r', 'e', 't', 'i', '_', '_']) (o := ['r', 'o', 't', 'a', 'r', 'e', 't', 'i', '_', 't', 'e', 's']) (by kernel_rfl) owner_sin]; kernel_rfl
def SIt (h : Heap) (I a : Addr) (f : Value) (i n ep : Nat) : Prop := h.get? I = some { cls := .type "set_iterator", data := .fields #[f, rawInt i, .ref a, rawInt n, rawInt ep] }
theorem erase_perm {α : Type} : ∀ (l : List α) (i : Nat) (h : i < l.length), (l[i] :: l.eraseIdx i).Perm l
  | x :: l, 0, _ => List.Perm.refl _
  | x :: l, i + 1, h => by
    have p := erase_perm l i (by simpa using h)
    simp only [List.getElem_cons_succ, List.eraseIdx_cons_succ]
    exact (List.Perm.swap _ _ _).trans (p.cons x)
theorem pickGo_perm {α : Type} (next : Nat → Nat) : ∀ (n k : Nat) (l : List α) (out : Array α), l.length = n → (pickOrder.go next n k l out).toList.Perm (out.toList ++ l) := by
  intro n
  induction n with
  | zero =>
    intro k l out h
    have e : l = [] := List.length_eq_zero_iff.mp h
    subst e
    rw [List.append_nil]
    exact List.Perm.refl _
  | succ n ih =>
    intro k l out h
    unfold pickOrder.go
    have hl : next k % l.length < l.length := Nat.mod_lt _ (by omega)
    rw [List.getElem?_eq_getElem hl]
    dsimp only
    refine (ih _ _ _ (by rw [List.length_eraseIdx_of_lt hl]; omega)).trans ?_
    rw [Array.toList_push, List.append_assoc]
    refine List.Perm.append_left _ ?_
    refine List.Perm.trans ?_ (erase_perm _ _ hl)
    exact List.Perm.refl _
theorem pick_perm {α : Type} (next : Nat → Nat) (xs : Array α) : (pickOrder next xs).toList.Perm xs.toList := by
  have h := pickGo_perm next xs.size 0 xs.toList #[] (by rw [Array.length_toList])
  unfold pickOrder
  simpa using h
section
variable {prog : Program} {w : World} {A : Around} {E : Value → Shared → Prop} {s : Shared}
theorem wp_choose {n : Nat} {src : Source} {Q : Nat → Shared → Prop} (hn : n ≠ 0) (h : ∀ i d, i < n → Q i { s with drawn := d }) : wpAny (model prog w) A (choose src n) Q E s := fun _ _ _ => ⟨hn, h _ _ (Nat.mod_lt _ (Nat.pos_of_ne_zero hn))⟩
theorem wp_drawOrder {α : Type} : ∀ (n : Nat) (xs : List α) (s : Shared) (Q : List α → Shared → Prop), xs.length = n → (∀ ys d, ys.Perm xs → Q ys { s with drawn := d }) → wpAny (model prog w) A (drawOrder n xs) Q E s := by
  intro n
  induction n with
  | zero =>
    intro xs s Q h q
    have e : xs = [] := List.length_eq_zero_iff.mp h
    subst e
    exact wpAny_pure (q [] s.drawn (List.Perm.refl _))
  | succ n ih =>
    intro xs s Q h q
    cases xs with
    | nil => simp at h
    | cons x xs =>
      show wpAny _ _ (choose .order (x :: xs).length >>= _) _ _ _
      refine wpAny_bind (wp_choose (by simp) fun i d hi => ?_)
      rw [List.getElem?_eq_getElem hi]
      dsimp only
      refine wpAny_bind (ih _ _ _ (by rw [List.length_eraseIdx_of_lt hi]; omega) fun ys d2 p => ?_)
      exact wpAny_pure (q _ _ ((p.cons _).trans (erase_perm _ _ hi)))
theorem si_stop {I : Addr} {α : Type} {s0 : Shared} {Q : α → Shared → Prop} (hh : A.handled = none) (k0 : Heap.ExtBut I s0.heap s.heap)
    (hE : ∀ a h', Heap.ExtBut I s0.heap h' → ({ s with heap := h' } : Shared).TypeIs a "StopIteration" → E a { s with heap := h' }) : wpAny (model prog w) A (newExc (.type "StopIteration") [] >>= fun e => (raiseNew e : Sem α)) Q E s := by
  refine wpAny_bind ?_
  simp only [newExc, newTuple]
  refine wpAny_bind (wpAny_newObj_type ?_ (by size_fits))
  refine wpAny_bind (m := firstArgMember _ _) (wpAny_of_eq (a := Value.none) (by first | rfl | (simp only [firstArgMember]; rfl)) ?_)
  refine wpAny_newObj_type ?_ (by size_fits)
  simp only [raiseNew]
  refine wpAny_bind (wpAny_handled ?_)
  rw [hh]
  refine wpAny_bind (wpAny_pure (wpAny_throw ?_))
  exact hE _ _ ((k0.push _).push _) ⟨_, Heap.get?_push_size _ rfl, rfl⟩
theorem si_next {I a : Addr} {f : Value} {i n ep : Nat} {es : Array (Int × Value)} {t : SetTable} {Q : Option Value → Shared → Prop} (hh : A.handled = none) (hI : SIt s.heap I a f i n ep) (ha : s.heap.get? a = some { cls := .type "set", data := .set es ep t }) (hf : t.fits es.size = true) (hn : es.size = n)
    (hS : ∀ slot, f = rawInt slot → wpAny (model prog w) A.in1 (setNext a slot.toNat i ep) (fun r s1 => s1 = s ∧ match r with
      | some (x, nx) => ∀ h', SIt h' I a (rawInt nx) (i + 1) n ep → Heap.ExtBut I s.heap h' → Q (some x) { s with heap := h' }
      | none => ∀ h', Heap.ExtBut I s.heap h' → Q none { s with heap := h' }) (fun _ _ => False) s)
    (hT : (∃ slot, f = rawInt slot) ∨ ∃ (T : Addr) (ps : List Nat), f = .ref T ∧ s.heap.IsTuple T (ps.map fun (j : Nat) => rawInt j).toArray ∧
      (∀ p, ps[i]? = some p → ∃ e : Int × Value, es[p]? = some e ∧ ∀ h', SIt h' I a f (i + 1) n ep → Heap.ExtBut I s.heap h' → Q (some e.2) { s with heap := h' }) ∧
      (ps[i]? = none → ∀ h', Heap.ExtBut I s.heap h' → Q none { s with heap := h' })) : wpAny (model prog w) A (pyNext (.ref I)) Q E s := by
  have tI : s.TypeIs (.ref I) "set_iterator" := ⟨_, hI, rfl⟩
  unfold pyNext
  refine wpAny_bind (wpAny_attempt (wpAny_callSpecial?_slot (name := Str.ofString "__next__") tI slot_sin
    (wpAny_call_entry slot_sin tI entry_sin ?_ (args_sin _))))
  unfold Builtin.«set_iterator.__next__»
  refine wpAny_bind (wpAny_of_eq (a := (Value.ref I, [])) rfl ?_)
  dsimp only
  refine wpAny_bind (wpAny_fieldsOf hI rfl ?_)
  show wpAny _ _ (setEntries a >>= _) _ _ s
  unfold setEntries
  refine wpAny_bind (wpAny_bind (wpAny_setState_of ha rfl hf (wpAny_pure ?_)))
  dsimp only
  have e1 : ((es.size : Int) != ((n : Nat) : Int)) = false := by rw [hn]; simp
  rw [if_neg (by rw [e1]; exact Bool.false_ne_true)]
  have stop : ∀ h', Heap.ExtBut I s.heap h' → (∀ h', Heap.ExtBut I s.heap h' → Q none { s with heap := h' }) → ∀ (Q' : PySem.Fin → Shared → Prop) (E' : Value → Shared → Prop), (∀ a h', Heap.ExtBut I s.heap h' → ({ s with heap := h' } : Shared).TypeIs a "StopIteration" → E' a { s with heap := h' }) → wpAny (model prog w) A.in1 (newExc (.type "StopIteration") [] >>= fun e => (raiseNew e : Sem PySem.Fin)) Q' E' { s with heap := h' } := fun h' k q Q' E' hE => si_stop (s := { s with heap := h' }) (s0 := s) hh k hE
  rcases hT with ⟨slot, rfl⟩ | ⟨T, ps, rfl, tT, hp, hp0⟩
  · show wpAny _ _ (setNext a slot.toNat ((i : Int)).toNat ((ep : Int)).toNat >>= _) _ _ s
    simp only [Int.toNat_natCast]
    refine wpAny_bind (wpAny_mono (hS slot rfl) ?_ fun _ _ z => z.elim)
    rintro r s1 ⟨rfl, q⟩
    cases r with
    | none =>
      dsimp only at q ⊢
      refine wpAny_bind (wpAny_setField_rec hI (by simp) fun h1 g1 sb1 => ?_)
      refine stop h1 sb1.extBut q _ _ fun a h' k ty => ?_
      refine wpAny_bind (wpAny_isInstance (T := "StopIteration") (b := true) ty isSubtype_stop ?_)
      exact wpAny_pure (q h' k)
    | some p =>
      obtain ⟨x, nx⟩ := p
      dsimp only at q ⊢
      refine wpAny_bind (wpAny_setField_rec hI (by simp) fun h1 g1 sb1 => ?_)
      refine wpAny_bind (wpAny_setField_rec (s := { s1 with heap := h1 }) g1 (by simp) fun h2 g2 sb2 => ?_)
      refine wpAny_pure ⟨x, rfl, wpAny_pure (q h2 ?_ (sb1.trans sb2).extBut)⟩
      exact g2
  · obtain ⟨o, eo, co, no, do'⟩ := id tT
    show wpAny _ _ (seqItems? (.ref T) >>= _) _ _ s
    refine wpAny_bind (wpAny_seqItems eo do' ?_)
    dsimp only
    simp only [Int.toNat_natCast]
    cases hq : ps[i]? with
    | none =>
      have e2 : (ps.map fun (j : Nat) => rawInt j).toArray[i]? = none := by simp [hq]
      rw [e2]
      dsimp only
      refine wpAny_bind (wpAny_setField_rec hI (by simp) fun h1 g1 sb1 => ?_)
      refine wpAny_bind (wpAny_setField_rec (s := { s with heap := h1 }) g1 (by simp) fun h2 g2 sb2 => ?_)
      refine stop h2 (sb1.trans sb2).extBut (hp0 hq) _ _ fun a h' k ty => ?_
      refine wpAny_bind (wpAny_isInstance (T := "StopIteration") (b := true) ty isSubtype_stop ?_)
      exact wpAny_pure (hp0 hq h' k)
    | some p =>
      have e2 : (ps.map fun (j : Nat) => rawInt j).toArray[i]? = some (rawInt p) := by simp [hq]
      rw [e2]
      show wpAny _ _ (setNextDrawn a ((p : Int)).toNat ((ep : Int)).toNat >>= _) _ _ s
      simp only [Int.toNat_natCast]
      obtain ⟨e, he, q⟩ := hp p hq
      unfold setNextDrawn
      refine wpAny_bind (wpAny_bind (wpAny_setState_of ha rfl hf ?_))
      dsimp only
      rw [if_neg (by simp)]
      rw [he]
      refine wpAny_bind (wpAny_pure (wpAny_pure ?_))
      refine wpAny_bind (wpAny_setField_rec hI (by simp) fun h1 g1 sb1 => ?_)
      exact wpAny_pure ⟨e.2, rfl, wpAny_pure (q h1 g1 sb1.extBut)⟩
end
end L2
end
section
set_option Elab.async false
set_option linter.all false
set_option maxRecDepth 100000
namespace L2
open PySem PySem.Spec PyProof.Rows
def SPv (ys : List Str) (i : Nat) (v : Value) : Prop := ∃ x tk, ys[i]? = some x ∧ v = .str x tk
def StS (I a : Addr) (es : Array (Int × Value)) (ep : Nat) (t : SetTable) (first : Nat → Value) (i : Nat) (h : Heap) : Prop := SIt h I a (first i) i es.size ep ∧ h.get? a = some { cls := .type "set", data := .set es ep t }
theorem StS.at {I a : Addr} {es : Array (Int × Value)} {ep : Nat} {t : SetTable} {first : Nat → Value} {i : Nat} {h h' : Heap} {fp : List Addr} (x : StS I a es ep t first i h) (h1 : I ∈ fp) (h2 : a ∈ fp) (k : ∀ b ∈ fp, ∀ o, h.get? b = some o → h'.get? b = some o) : StS I a es ep t first i h' := ⟨k _ h1 _ x.1, k _ h2 _ x.2⟩
theorem fits_size {t : SetTable} {n : Nat} (h : t.fits n = true) : t.place.size = n := by
  unfold SetTable.fits at h
  simp at h
  exact h.1
section
variable {prog : Program} {w : World} {A : Around} {E : Value → Shared → Prop} {s : Shared} {a I : Addr} {es : Array (Int × Value)} {ep : Nat} {t : SetTable}
theorem nextA {slot i : Nat} {Q : Option (Value × Nat) → Shared → Prop} (ht : byTx w = true) (ha : s.heap.get? a = some { cls := .type "set", data := .set es ep t }) (hf : t.fits es.size = true)
    (h : Q (((pickOrder (w.params.setOrder a ep) es)[i]?).map fun e => (e.2, slot)) s) : wpAny (model prog w) A (setNext a slot i ep) Q E s := by
  unfold setNext
  refine wpAny_bind (wpAny_setState_of ha rfl hf ?_)
  unfold setsByText
  refine wpAny_bind (wpAny_bind (wp_ask (wpAny_pure ?_)))
  show wpAny _ _ (if byTx w = true then _ else _) _ _ s
  rw [if_pos ht]
  rw [if_neg (by simp)]
  unfold setWalk
  refine wpAny_bind (wpAny_bind (wpAny_setState_of ha rfl hf ?_))
  unfold setsByText
  refine wpAny_bind (wpAny_bind (wp_ask (wpAny_pure ?_)))
  show wpAny _ _ (if byTx w = true then _ else _) _ _ s
  rw [if_pos ht]
  refine wpAny_bind (wp_ask (wpAny_pure ?_))
  exact wpAny_pure h
theorem nextC {slot i : Nat} {Q : Option (Value × Nat) → Shared → Prop} (ht : byTx w = false) (h1 : es.size ≤ 1) (hl : t.led = true) (ha : s.heap.get? a = some { cls := .type "set", data := .set es ep t }) (hf : t.fits es.size = true)
    (h : Q (match es[SetTable.below t.place slot]?, t.place[SetTable.below t.place slot]? with
      | some (_, x), some j => some (x, j + 1)
      | _, _ => none) s) : wpAny (model prog w) A (setNext a slot i ep) Q E s := by
  unfold setNext
  refine wpAny_bind (wpAny_setState_of ha rfl hf ?_)
  unfold setsByText
  refine wpAny_bind (wpAny_bind (wp_ask (wpAny_pure ?_)))
  show wpAny _ _ (if byTx w = true then _ else _) _ _ s
  rw [if_neg (by rw [ht]; exact Bool.false_ne_true)]
  show wpAny _ _ (if (!t.plain && decide (es.size > 1)) = true then _ else _) _ _ s
  rw [if_neg (by simp; intro _; omega)]
  refine wpAny_bind (m := if (!t.led && !es.isEmpty) = true then unsupported "set:maker-not-led" else pure ()) ?_
  rw [if_neg (by rw [hl]; simp)]
  exact wpAny_pure (wpAny_pure h)
theorem self_si {f : Value} {i n : Nat} {Q : Value → Shared → Prop} (hit : SIt s.heap I a f i n ep) (h : Q (.ref I) s) : wpAny (model prog w) A (pyIter (.ref I)) Q E s := by
  have tI : s.TypeIs (.ref I) "set_iterator" := ⟨_, hit, rfl⟩
  refine wpAny_pyIter_slot tI slot_sii (wpAny_call_entry slot_sii tI entry_sii ?_ (args_sii _))
  show wpAny _ _ (ret (.ref I)) _ _ s
  exact wpAny_pure ⟨_, rfl, "set_iterator", _, tI, slot_sin.lookup, h⟩
theorem ent_str {es : Array (Int × Value)} {e : Int × Value} (hE : ∀ e ∈ es.toList, EntOk w e) (he : e ∈ es.toList) : ∃ tk, e.2 = .str (sOf e) tk := by
  obtain ⟨x, tk, rfl⟩ := hE e he
  exact ⟨tk, rfl⟩
theorem walkA (hh : A.handled = none) (hne : a ≠ I) (ht : byTx w = true) (hf : t.fits es.size = true) (hE : ∀ e ∈ es.toList, EntOk w e) :
    Walks prog w A I [I, a] [I] es.size (SPv ((pickOrder (w.params.setOrder a ep) es).toList.map sOf)) (StS I a es ep t fun _ => rawInt 0) where
  sub := fun b hb => by simp at hb; simp [hb]
  frame := fun i h h' st hk => st.at (by simp) (by simp) hk
  item := fun i s Q E hi st hQ => by
    have p := pick_perm (w.params.setOrder a ep) es
    refine si_next hh st.1 st.2 hf rfl (fun slot e => ?_) (.inl ⟨0, rfl⟩)
    cases e
    refine nextA ht st.2 hf ⟨rfl, ?_⟩
    have hz : i < (pickOrder (w.params.setOrder a ep) es).size := by
      have := p.length_eq
      rw [Array.length_toList, Array.length_toList] at this
      rw [this]; exact hi
    rw [Array.getElem?_eq_getElem hz]
    show ∀ h', _ → _ → _
    intro h' st' k
    obtain ⟨tk, e⟩ := ent_str hE (p.mem_iff.mp (by simp : (pickOrder (w.params.setOrder a ep) es)[i] ∈ _))
    refine hQ _ h' s.toks ⟨sOf (pickOrder (w.params.setOrder a ep) es)[i], tk, ?_, e⟩ ⟨st', k a _ hne st.2⟩ fun b o hb e => k b o (fun z => hb (by simp [z])) e
    rw [List.getElem?_map, Array.getElem?_toList, Array.getElem?_eq_getElem hz]; rfl
  done := fun s Q E st hQ => by
    have p := pick_perm (w.params.setOrder a ep) es
    refine si_next hh st.1 st.2 hf rfl (fun slot e => ?_) (.inl ⟨0, rfl⟩)
    cases e
    refine nextA ht st.2 hf ⟨rfl, ?_⟩
    have hz : (pickOrder (w.params.setOrder a ep) es)[es.size]? = none := by
      rw [Array.getElem?_eq_none_iff]
      have := p.length_eq
      rw [Array.length_toList, Array.length_toList] at this
      omega
    rw [hz]
    exact fun h' k => hQ h' s.toks fun b o hb e => k b o (fun z => hb (by simp [z])) e
  self := fun _ _ _ _ st hQ => self_si st.1 hQ
theorem walkC (hh : A.handled = none) (hne : a ≠ I) (ht : byTx w = false) (h1 : es.size ≤ 1) (hl : t.led = true) (hf : t.fits es.size = true) (hE : ∀ e ∈ es.toList, EntOk w e) :
    Walks prog w A I [I, a] [I] es.size (SPv (es.toList.map sOf)) (StS I a es ep t fun i => rawInt (if i = 0 then (0 : Nat) else t.place.getD 0 0 + 1 : Nat)) where
  sub := fun b hb => by simp at hb; simp [hb]
  frame := fun i h h' st hk => st.at (by simp) (by simp) hk
  item := fun i s Q E hi st hQ => by
    have hi0 : i = 0 := by omega
    subst hi0
    have hs := fits_size hf
    refine si_next hh st.1 st.2 hf rfl (fun slot e => ?_) (.inl ⟨_, rfl⟩)
    have e0 : slot = 0 := by injection e with e; exact e.symm
    subst e0
    refine nextC ht h1 hl st.2 hf ⟨rfl, ?_⟩
    have hz : es.size = 1 := by omega
    have hb : SetTable.below t.place 0 = 0 := by
      unfold SetTable.below
      rw [hs, hz]
      simp [SetTable.below.go]
    have e1 : es[0]? = some (es[0]'hi) := Array.getElem?_eq_getElem _
    have e2 : t.place[0]? = some (t.place.getD 0 0) := by
      rw [Array.getElem?_eq_getElem (by omega)]
      simp [Array.getD, hs, hz]
    rw [show (0 : Int).toNat = 0 from rfl, hb, e1, e2]
    show ∀ h', _ → _ → _
    intro h' st' k
    obtain ⟨tk, e⟩ := ent_str hE (by simp : es[0] ∈ _)
    refine hQ _ h' s.toks ⟨sOf es[0], tk, ?_, e⟩ ⟨st', k a _ hne st.2⟩ fun b o hb e => k b o (fun z => hb (by simp [z])) e
    rw [List.getElem?_map, Array.getElem?_toList, e1]; rfl
  done := fun s Q E st hQ => by
    have hs := fits_size hf
    refine si_next hh st.1 st.2 hf rfl (fun slot e => ?_) (.inl ⟨_, rfl⟩)
    refine nextC ht h1 hl st.2 hf ⟨rfl, ?_⟩
    have hz : es[SetTable.below t.place slot.toNat]? = none := by
      rw [Array.getElem?_eq_none_iff]
      injection e with e
      subst e
      simp only [Int.toNat_natCast]
      by_cases z : es.size = 0
      · rw [z]; exact Nat.zero_le _
      · have z1 : es.size = 1 := by omega
        rw [if_neg z, z1]
        unfold SetTable.below
        rw [hs, z1]
        have e2 : t.place[0]? = some (t.place[0]'(by omega)) := Array.getElem?_eq_getElem _
        simp [SetTable.below.go, e2]
    rw [hz]
    exact fun h' k => hQ h' s.toks fun b o hb e => k b o (fun z => hb (by simp [z])) e
  self := fun _ _ _ _ st hQ => self_si st.1 hQ
theorem walkB {T : Addr} {ps : List Nat} (hh : A.handled = none) (hne : a ≠ I) (hnt : T ≠ I) (hp : ps.Perm (List.range es.size)) (hf : t.fits es.size = true) (hE : ∀ e ∈ es.toList, EntOk w e) :
    Walks prog w A I [I, a, T] [I] es.size (SPv (ps.map fun p => sOf (es.getD p default))) (fun i h => StS I a es ep t (fun _ => .ref T) i h ∧ h.IsTuple T (ps.map fun (j : Nat) => rawInt j).toArray) where
  sub := fun b hb => by simp at hb; simp [hb]
  frame := fun i h h' st hk => ⟨st.1.at (by simp) (by simp) hk, let ⟨o, ho, r⟩ := st.2; ⟨o, hk T (by simp) o ho, r⟩⟩
  item := fun i s Q E hi st hQ => by
    have hz := hp.length_eq
    rw [List.length_range] at hz
    have keep : ∀ h', Heap.ExtBut I s.heap h' → h'.IsTuple T (ps.map fun (j : Nat) => rawInt j).toArray := fun h' k => let ⟨o, ho, r⟩ := st.2; ⟨o, k T o hnt ho, r⟩
    refine si_next hh st.1.1 st.1.2 hf rfl (fun slot e => by cases e) (.inr ⟨T, ps, rfl, st.2, fun p hpi => ?_, fun hn => ?_⟩)
    · have hm : p < es.size := List.mem_range.mp (hp.mem_iff.mp (List.mem_of_getElem? hpi))
      refine ⟨es[p], Array.getElem?_eq_getElem hm, fun h' st' k => ?_⟩
      obtain ⟨tk, e⟩ := ent_str hE (by simp : es[p] ∈ _)
      refine hQ _ h' s.toks ⟨sOf es[p], tk, ?_, e⟩ ⟨⟨st', k a _ hne st.1.2⟩, keep h' k⟩ fun b o hb e => k b o (fun z => hb (by simp [z])) e
      rw [List.getElem?_map, hpi]
      simp [Array.getD, hm]
    · rw [List.getElem?_eq_none_iff] at hn; omega
  done := fun s Q E st hQ => by
    have hz := hp.length_eq
    rw [List.length_range] at hz
    refine si_next hh st.1.1 st.1.2 hf rfl (fun slot e => by cases e) (.inr ⟨T, ps, rfl, st.2, fun p hpi => ?_, fun hn => ?_⟩)
    · have := (List.getElem?_eq_some_iff.mp hpi).1; omega
    · exact fun h' k => hQ h' s.toks fun b o hb e => k b o (fun z => hb (by simp [z])) e
  self := fun _ _ _ _ st hQ => self_si st.1.1 hQ
theorem perm_idx {es : Array (Int × Value)} {ps : List Nat} (hp : ps.Perm (List.range es.size)) : (ps.map fun p => sOf (es.getD p default)).Perm (es.toList.map sOf) := by
  refine (hp.map _).trans ?_
  have e : (List.range es.size).map (fun p => sOf (es.getD p default)) = es.toList.map sOf := by
    refine List.ext_getElem (by simp) fun i h1 h2 => ?_
    simp at h1 h2
    simp [Array.getD, h1]
  rw [e]
theorem ss_iter {ss : List Str} {Q : Value → Shared → Prop} (S : SSet w s.heap a ss) (hz : ss.length < 1000)
    (hQ : ∀ (I : Addr) (h' : Heap) d (ys : List Str) (fp : List Addr) (St : Nat → Heap → Prop), ys.Perm ss → (∀ b o, s.heap.get? b = some o → h'.get? b = some o) → (∀ b ∈ fp, b = a ∨ s.heap.objs.size ≤ b) → s.heap.objs.size ≤ I → (∀ A' : Around, A'.handled = none → Walks prog w A' I fp [I] ys.length (SPv ys) St) → St 0 h' → Q (.ref I) { s with heap := h', drawn := d }) :
    wpAny (model prog w) A (pyIter (.ref a)) Q E s := by
  obtain ⟨es, ep, t, h1, h2, h3, h4, h5, h6, h7⟩ := S
  have tS : s.TypeIs (.ref a) "set" := ⟨_, h1, rfl⟩
  have ha : a < s.heap.objs.size := Heap.lt_size h1
  have hsz : es.size = ss.length := by rw [h3, List.length_map, Array.length_toList]
  refine wpAny_pyIter_slot tS F.slot_set_iter (wpAny_call_entry F.slot_set_iter tS entry_si ?_ (F.args_set_iter_1 _))
  unfold Builtin.«frozenset.__iter__»
  refine wpAny_bind (wpAny_of_eq (a := a) rfl ?_)
  unfold Builtin.Frozenset.sizeOf setEntries
  refine wpAny_bind (wpAny_bind (wpAny_bind (wpAny_setState_of h1 rfl h5 (wpAny_pure (wpAny_pure ?_)))))
  dsimp only
  unfold setDrawn
  refine wpAny_bind (wpAny_bind (wpAny_setState_of h1 rfl h5 ?_))
  unfold setsByText
  refine wpAny_bind (wpAny_bind (wp_ask (wpAny_pure (wpAny_pure ?_))))
  show wpAny _ _ (if (!byTx w && (!t.plain && decide (es.size > 1))) = true then _ else _) _ _ s
  unfold setEpoch
  by_cases hb : (!byTx w && (!t.plain && decide (es.size > 1))) = true
  · rw [if_pos hb]
    refine wpAny_bind (wp_drawOrder es.size (List.range es.size) s _ List.length_range fun ps d hp => ?_)
    have hpz := hp.length_eq
    rw [List.length_range] at hpz
    unfold newTuple
    refine wpAny_bind (wpAny_newObj_type ?_ (by show (ps.map _).toArray.size ≤ _; rw [List.size_toArray, List.length_map, hpz, hsz]; exact Nat.le_of_lt (small1000 (Nat.le_of_lt hz))))
    refine wpAny_bind (wpAny_bind (wpAny_setState_of (s := { s with heap := s.heap.push _, drawn := d }) (Heap.get?_push_of_some _ h1) rfl h5 (wpAny_pure ?_)))
    unfold newFields
    refine wpAny_bind (wpAny_newObj_type ?_)
    refine wpAny_pure ⟨_, rfl, "set_iterator", _, ⟨_, Heap.get?_push_size _ rfl, rfl⟩, slot_sin.lookup, ?_⟩
    have z1 : (s.heap.push { cls := .type "tuple", data := .seq (ps.map fun (i : Nat) => rawInt i).toArray }).objs.size = s.heap.objs.size + 1 := Heap.size_push ..
    refine hQ _ _ d (ps.map fun p => sOf (es.getD p default)) [(s.heap.push { cls := .type "tuple", data := .seq (ps.map fun (i : Nat) => rawInt i).toArray }).objs.size, a, s.heap.objs.size] (fun i h => StS (s.heap.push { cls := .type "tuple", data := .seq (ps.map fun (i : Nat) => rawInt i).toArray }).objs.size a es ep t (fun _ => .ref s.heap.objs.size) i h ∧ h.IsTuple s.heap.objs.size (ps.map fun (j : Nat) => rawInt j).toArray) (h3 ▸ perm_idx hp) (fun b o e => Heap.get?_push_of_some _ (Heap.get?_push_of_some _ e)) ?_ (by rw [z1]; exact Nat.le_succ _) (fun A' hh => ?_) ⟨⟨?_, ?_⟩, ?_⟩
    · intro b hb
      rcases List.mem_cons.mp hb with rfl | hb
      · exact .inr (by rw [z1]; exact Nat.le_succ _)
      · rcases List.mem_cons.mp hb with rfl | hb
        · exact .inl rfl
        · exact .inr (Nat.le_of_eq (List.mem_singleton.mp hb).symm)
    · have W := walkB (prog := prog) (w := w) (A := A') (a := a) (I := (s.heap.push { cls := .type "tuple", data := .seq (ps.map fun (i : Nat) => rawInt i).toArray }).objs.size) (es := es) (ep := ep) (t := t) (T := s.heap.objs.size) hh (Nat.ne_of_lt (by rw [z1]; exact Nat.lt_succ_of_lt ha)) (Nat.ne_of_lt (by rw [z1]; exact Nat.lt_succ_self _)) hp h5 h2
      have el : (ps.map fun p => sOf (es.getD p default)).length = es.size := by rw [List.length_map, hpz]
      rw [el]
      exact W
    · exact Heap.get?_push_size _ rfl
    · exact Heap.get?_push_of_some _ (Heap.get?_push_of_some _ h1)
    · exact ⟨_, Heap.get?_push_of_some _ (Heap.get?_push_size _ rfl), rfl, _, rfl⟩
  · rw [if_neg hb]
    refine wpAny_bind (wpAny_pure ?_)
    refine wpAny_bind (wpAny_bind (wpAny_setState_of h1 rfl h5 (wpAny_pure ?_)))
    unfold newFields
    refine wpAny_bind (wpAny_newObj_type ?_)
    refine wpAny_pure ⟨_, rfl, "set_iterator", _, ⟨_, Heap.get?_push_size _ rfl, rfl⟩, slot_sin.lookup, ?_⟩
    have hfp : ∀ b ∈ [s.heap.objs.size, a], b = a ∨ s.heap.objs.size ≤ b := by
      intro b hb
      rcases List.mem_cons.mp hb with rfl | hb
      · exact .inr (Nat.le_refl _)
      · exact .inl (List.mem_singleton.mp hb)
    cases ht : byTx w with
    | true =>
      have p := pick_perm (w.params.setOrder a ep) es
      refine hQ _ _ s.drawn ((pickOrder (w.params.setOrder a ep) es).toList.map sOf) [s.heap.objs.size, a] (StS s.heap.objs.size a es ep t fun _ => rawInt 0) (h3 ▸ p.map sOf) (fun b o e => Heap.get?_push_of_some _ e) hfp (Nat.le_refl _) (fun A' hh => ?_) ⟨Heap.get?_push_size _ rfl, Heap.get?_push_of_some _ h1⟩
      have el : ((pickOrder (w.params.setOrder a ep) es).toList.map sOf).length = es.size := by rw [List.length_map, p.length_eq, Array.length_toList]
      rw [el]
      exact walkA hh (Nat.ne_of_lt ha) ht h5 h2
    | false =>
      have hl : t.led = true := by rw [h6, ht]; rfl
      have hs1 : es.size ≤ 1 := by
        rcases h7 with h7 | h7
        · rw [hsz, h7]; exact Nat.zero_le _
        · rw [ht, h7] at hb
          simp at hb
          exact hb
      refine hQ _ _ s.drawn (es.toList.map sOf) [s.heap.objs.size, a] (StS s.heap.objs.size a es ep t fun i => rawInt (if i = 0 then (0 : Nat) else t.place.getD 0 0 + 1 : Nat)) (h3 ▸ List.Perm.refl _) (fun b o e => Heap.get?_push_of_some _ e) hfp (Nat.le_refl _) (fun A' hh => ?_) ⟨Heap.get?_push_size _ rfl, Heap.get?_push_of_some _ h1⟩
      have el : (es.toList.map sOf).length = es.size := by rw [List.length_map, Array.length_toList]
      rw [el]
      exact walkC hh (Nat.ne_of_lt ha) ht hs1 hl h5 h2
end
end L2
end
section
set_option Elab.async false
set_option linter.all false
set_option maxRecDepth 100000
namespace L2
open PySem PySem.Spec PyProof.Rows
section
variable {prog : Program} {w : World} {A : Around} {E : Value → Shared → Prop} {s : Shared}
theorem ss_hint {r : Addr} {Q : Bool → Shared → Prop} (hT : s.TypeIs (.ref r) "set") (h : Q false s) : wpAny (model prog w) A (Builtin.List.listLengthHint (.ref r)) Q E s := by
  unfold Builtin.List.listLengthHint
  refine wpAny_bind (wpAny_specialOf hT F.slot_set_len.lookup ?_)
  generalize hid : ("set.__len__" : String) = id0
  wp_delta
  rw [show splitId id0 = some ("set", "__len__") from by subst hid; decide +kernel]
  subst hid
  refine wpAny_bind (wpAny_isInstance (T := "set") (b := true) hT (by rw [isSubtype_type]; kernel_rfl) ?_)
  refine wpAny_ite_split (fun hab => absurd hab (by decide)) (fun _ => ?_)
  refine wpAny_ite_split (fun _ => ?_) (fun hab => absurd (by decide +kernel) hab)
  refine wpAny_bind (wpAny_typeOf hT ?_)
  exact wpAny_pure h
theorem strs_items {ys : List Str} : ∀ {acc : List Value} {n : Nat}, n + acc.length = ys.length → (∀ j v, acc[j]? = some v → SPv ys (n + j) v) → StrsAre acc (ys.drop n) := by
  intro acc
  induction acc with
  | nil =>
    intro n h _
    rw [List.drop_eq_nil_of_le (by simp at h; omega)]
    exact .nil
  | cons v acc ih =>
    intro n h p
    obtain ⟨x, tk, hx, rfl⟩ := p 0 v rfl
    have hlt : n < ys.length := by simp at h; omega
    rw [Nat.add_zero] at hx
    have e : ys.drop n = x :: ys.drop (n + 1) := by
      rw [List.drop_eq_getElem_cons hlt]
      rw [List.getElem?_eq_getElem hlt] at hx
      cases hx; rfl
    rw [e]
    refine .cons x tk (ih (n := n + 1) (by simp at h; omega) fun j v hj => ?_)
    have := p (j + 1) v (by simpa using hj)
    rwa [show n + (j + 1) = n + 1 + j by omega] at this
theorem ss_collect {a : Addr} {ss : List Str} {Q : List Value → Shared → Prop} (hh : A.handled = none) (S : SSet w s.heap a ss) (hz : ss.length < 1000)
    (hQ : ∀ h' d tk vs ys, ys.Perm ss → StrsAre vs ys → (∀ b o, s.heap.get? b = some o → h'.get? b = some o) → s.heap.objs.size < h'.objs.size → Q vs { s with heap := h', drawn := d, toks := tk }) : wpAny (model prog w) A (collect (.ref a)) Q E s := by
  have ha : a < s.heap.objs.size := by obtain ⟨_, _, _, h1, _⟩ := S; exact Heap.lt_size h1
  unfold collect
  refine wpAny_bind (wpAny_runValue (codeAny_builtin F.entry_proto_collect ?_))
  rw [Around.under_plainId F.plain_proto_collect _]
  show wpAny _ A.in1 (newList [] >>= fun l => again (.builtin "list.__iadd__" ⟨[l, .ref a], []⟩)) _ _ s
  refine wpAny_bind (wpAny_newObj_type ?_)
  refine wpAny_pure ⟨plainId_quiet F.plain_list_iadd _, codeAny_builtin F.entry_list_iadd ?_⟩
  rw [Around.under_plainId F.plain_list_iadd _]
  have S1 : SSet w (s.heap.push { cls := .type "list", data := .seq ([] : List Value).toArray }) a ss := S.at fun o e => Heap.get?_push_of_some _ e
  have hS₁ : (s.heap.push { cls := .type "list", data := .seq ([] : List Value).toArray }).get? s.heap.objs.size = some { cls := .type "list", data := .seq ([] : List Value).toArray } := Heap.get?_push_size _ rfl
  have z1 : (s.heap.push { cls := .type "list", data := .seq ([] : List Value).toArray }).objs.size = s.heap.objs.size + 1 := Heap.size_push ..
  have tS : ∀ s' : Shared, SSet w s'.heap a ss → s'.TypeIs (.ref a) "set" := fun s' S => by obtain ⟨_, _, _, h1, _⟩ := S; exact ⟨_, h1, rfl⟩
  show wpAny _ A.in1 (Builtin.List.listExtendWith (.ref s.heap.objs.size) (.ref a) (.ref s.heap.objs.size)) _ _ _
  unfold Builtin.List.listExtendWith
  refine wpAny_bind (wpAny_typeOf (tS _ S1) ?_)
  have h1 : Builtin.List.listSameRef (.ref s.heap.objs.size) (.ref a) = false := by
    have : s.heap.objs.size ≠ a := Nat.ne_of_gt ha
    simp [Builtin.List.listSameRef, this]
  have h2 : (Value.type "set" == Value.type "list") = false := by decide
  have h3 : (Value.type "set" == Value.type "tuple") = false := by decide
  simp only [h1, h2, h3, Bool.or_false, Bool.false_eq_true, if_false]
  refine wpAny_bind (ss_iter (s := { s with heap := s.heap.push { cls := .type "list", data := .seq ([] : List Value).toArray } }) S1 hz fun I h' d ys fp St p k hfp hI W st => ?_)
  dsimp only at k hfp hI ⊢
  rw [z1] at hfp hI
  have hSf : s.heap.objs.size ∉ fp := fun hm => by
    rcases hfp _ hm with e | e
    · exact absurd e (Nat.ne_of_gt ha)
    · exact absurd e (Nat.not_le_of_gt (Nat.lt_succ_self _))
  refine wpAny_bind (wpAny_holding (ss_hint (tS _ (S1.at fun o e => k a o e)) ?_))
  have hl := p.length_eq
  have key : ∀ (h2 : Heap) (c₁ : Nat), St 0 h2 → (∀ b o, b ≠ s.heap.objs.size → s.heap.get? b = some o → h2.get? b = some o) → h2.get? s.heap.objs.size = some { cls := .type "list", data := .seq #[] c₁ } →
      codeAny (model prog w) A (.builtin "list.extend.loop" ⟨[.ref s.heap.objs.size, .ref I, .ref s.heap.objs.size], []⟩) (fun r s' => match r with
        | .ok (.ret v) => wpAny (model prog w) A (match v with
            | .ref a => do
              match (← load a).data with
                | .seq xs _ => pure xs.toList
                | _ => unsupported "internal:collect"
            | _ => unsupported "internal:collect") Q E s'
        | .ok _ => False
        | .error e => E e s') { s with heap := h2, drawn := d } := by
    intro h2 c₁ st2 k2 g2
    refine codeAny_extend_loopS (W A.in1 hh).toS (by rw [hl]; exact Nat.le_of_lt (small1000 (by omega))) _ hSf _ ys.length 0 { s with heap := h2, drawn := d } #[] c₁ rfl (Nat.zero_le _) st2 g2 (ItemsOf.nil _) fun s' acc' c' hm hS' hacc => ?_
    show wpAny _ A (load s.heap.objs.size >>= _) _ _ s'
    refine wpAny_bind (wpAny_load hS' ?_)
    have q : StrsAre acc'.toList ys := by
      have h := strs_items (ys := ys) (acc := acc'.toList) (n := 0) (by rw [Nat.zero_add, Array.length_toList]; exact hacc.1) fun j v hj => by
        rw [Nat.zero_add]
        exact hacc.2 j v (by simpa using hj)
      exact h
    have hsz := Heap.lt_size hS'
    rw [Moved.eq_with hm] at hsz ⊢
    refine wpAny_pure (hQ _ d _ _ ys p q (fun b o e => hm.heap b o (fun z => ?_) (k2 b o (Nat.ne_of_lt (Heap.lt_size e)) e)) hsz)
    rcases List.mem_cons.mp z with z | z
    · exact absurd z (Nat.ne_of_lt (Heap.lt_size e))
    · rw [List.mem_singleton.mp z] at e
      exact absurd (Heap.lt_size e) (Nat.not_lt_of_le (Nat.le_of_succ_le hI))
  have kS := k _ _ hS₁
  refine wpAny_ite_split (fun _ => ?_) (fun _ => wpAny_pure ⟨plainId_quiet F.plain_extend_loop _, key _ 0 st (fun b o _ e => k b o (Heap.get?_push_of_some _ e)) kS⟩)
  refine wpAny_bind (wpAny_rule ?_)
  refine wpAny_bind ?_
  show wpAny _ _ (updateSeq s.heap.objs.size (·.push .none) >>= fun _ => updateSeq s.heap.objs.size (·.pop)) _ _ _
  refine wpAny_bind (wpAny_updateSeq kS rfl ?_)
  have hS₂ := Heap.get?_update_self (Obj.mapSeq (·.push Value.none)) kS rfl
  refine wpAny_updateSeq (hz := by seq_fits) hS₂ rfl ?_
  have hS₃ := Heap.get?_update_self (Obj.mapSeq (·.pop)) hS₂ rfl
  refine wpAny_pure ⟨plainId_quiet F.plain_extend_loop _, key _ _ ?_ (fun b o hb e => ?_) hS₃⟩
  · refine (W A.in1 hh).frame 0 _ _ st fun b hb o e => ?_
    have hbS : b ≠ s.heap.objs.size := fun h => hSf (h ▸ hb)
    exact (Heap.get?_update_other _ _ (Ne.symm hbS)).trans ((Heap.get?_update_other _ _ (Ne.symm hbS)).trans e)
  · exact (Heap.get?_update_other _ _ (Ne.symm hb)).trans ((Heap.get?_update_other _ _ (Ne.symm hb)).trans (k b o (Heap.get?_push_of_some _ e)))
theorem ss_sorted {a : Addr} {ss : List Str} {Q : Value → Shared → Prop} (hh : A.handled = none) (S : SSet w s.heap a ss) (hz : ss.length < 64)
    (hQ : ∀ h' d tk l e vs ys, ys.Perm ss → sortedS ys = true → StrsAre vs ys → (∀ b o, s.heap.get? b = some o → h'.get? b = some o) → s.heap.objs.size ≤ l → h'.get? l = some (seqObj "list" vs.toArray e) → Q (.ref l) { s with heap := h', drawn := d, toks := tk }) :
    wpAny (model prog w) A (call (.builtin "sorted") [.ref a]) Q E s := by
  refine Calls.call_function_entry kind_sorted plain_sorted entry_sorted (args_sorted1 _) ?_
  unfold Builtin.«sorted»
  refine wpAny_bind (m := checkCount "sorted" 1 1 _) (wpAny_pure ?_)
  refine wpAny_bind (ss_collect hh S (by omega) fun h1 d tk vs ys p hS k hsz => ?_)
  have hl : vs.length = ys.length := by
    clear p
    induction hS with
    | nil => rfl
    | cons _ _ _ ih => simp [ih]
  have h64 : vs.length < 64 := by rw [hl, p.length_eq]; exact hz
  refine wpAny_bind (wpAny_newList ?_ (by rw [sizeLine_eq]; omega))
  have hoL : (h1.push (seqObj "list" vs.toArray 0)).get? h1.objs.size = some (seqObj "list" vs.toArray 0) := Heap.get?_push_size _ rfl
  refine wpAny_bind (wpAny_holding (wpAny_call_entry slot_list_sort (s := { s with heap := h1.push (seqObj "list" vs.toArray 0), drawn := d, toks := tk }) ⟨_, hoL, rfl⟩ entry_list_sort (list_sort_treeK strKind_oneLt hoL hS.keysOf (fun v₁ v₂ rest e => keyKind_strs (by rw [← e]; exact hS)) h64 fun st' a1 a2 => ⟨_, rfl, ?_⟩) (args_list_sort _)))
  obtain ⟨ss', q1, q2, q3⟩ := sorted_out_str hS a1 a2
  obtain ⟨e, he⟩ := sortedHeap_at (out := (arrOf st').map (·.2)) hoL
  refine wpAny_pure ⟨_, rfl, hQ _ d tk h1.objs.size e _ ss' (q2.trans p) q3 q1 (fun b o eb => ?_) (Nat.le_of_lt hsz) (by rw [Array.toArray_toList]; exact he)⟩
  have hb : b < h1.objs.size := Heap.lt_size (k b o eb)
  rw [sortedHeap_old (Nat.ne_of_lt hb) (by rw [size_push']; exact Nat.lt_succ_of_lt hb)]
  exact Heap.get?_push_of_some _ (k b o eb)
end
section
variable {X : Cx}
theorem Inv.drawn {pins : List (Addr × Obj)} {σ : St} {H : Hp} {s : Shared} {d : Drawn} (I : Inv X pins σ H s) : Inv X pins σ H { s with drawn := d } := ⟨I.ok, I.os, I.bare, I.base, I.loc, I.cell, I.free, I.freeC, I.pin, I.hok, I.len⟩
theorem call_sortedS (hc : X.calm = true) : CallR X (.builtin "sorted") (fun xs H Q => ∃ (p : Addr) (ss : List Str), xs = [.ref p] ∧ H p = some (setO X.w p ss) ∧ ss.length < 64 ∧ ∀ (l : Addr) (ss' : List Str), H l = none → ss'.Perm ss → sortedS ss' = true → Q (.ref l) (upd H l (.lst (ss'.map V.str)))) := by
  intro pins s σ H xs us Q I r h
  obtain ⟨p, ss, rfl, hq, h64, q⟩ := h
  obtain ⟨u, rfl, rx⟩ := vals1 r
  cases rx
  have S : SSet X.w s.heap p ss := (I.hok p _ hq).1
  refine ss_sorted (I.ok.hd hc) S h64 fun h' d tk l e vs ys p q1 hS k hl hg => ?_
  have I2 := (I.drawn (d := d)).laid (t' := tk) (h' := h') (a := l) (o := .lst (ys.map V.str)) k hl (show ObjOk X.prog X.w _ _ _ (.lst (ys.map V.str)) from ⟨?_, vs, e, of_strs hS, by simpa [seqObj] using hg⟩)
  · exact ⟨.ref l, _, I2, rfl, q _ _ (I.hok.fresh hl) p q1⟩
  · rw [List.length_map, p.length_eq]
    have := small1000 (n := ss.length) (by omega)
    omega
theorem call_lenS : CallR X (.builtin "len") (fun xs H Q => ∃ (p : Addr) (ss : List Str), xs = [.ref p] ∧ H p = some (setO X.w p ss) ∧ ss.length < 1000 ∧ Q (.int ss.length) H) := by
  intro pins s σ H xs us Q I r h
  obtain ⟨p, ss, rfl, hq, hz, q⟩ := h
  obtain ⟨u, rfl, rx⟩ := vals1 r
  cases rx
  obtain ⟨es, ep, t, h1, h2, h3, h4, h5, h6, h7⟩ := (I.hok p _ hq).1
  have hsz : es.size = ss.length := by rw [h3, List.length_map, Array.length_toList]
  refine call_len_set h1 ⟨rfl, rfl, rfl⟩ rfl h5 (by omega) ?_
  rw [hsz]
  exact ⟨.int ss.length, H, I.tok _, ⟨_, rfl⟩, q⟩
end
end L2
end
section
set_option Elab.async false
set_option linter.all false
set_option maxRecDepth 100000
namespace L2
open PySem PySem.Spec PyProof.Rows
section
variable {X : Cx}
end
end L2
namespace Gn
open PySem L2
def top (i : Nat) : Stmt := PySem.Challenge.pw_surecall_k04_programs_at_their_bounds.main.body.getD i (.Pass ⟨0, 0, 0, 0⟩)
abbrev sHand : Stmt := top 38
abbrev sTake : Stmt := top 39
structure HandOk (d m t : Int) : Prop where
  d0 : 0 ≤ d
  m0 : 0 ≤ m
  m1 : m < 4611686018427387904
  t0 : 0 ≤ t
def Hand (H : Hp) (a : Addr) (d m t r : Int) : Prop := H a = some (.lst [.int d, .int m, .int t, .int r]) ∧ HandOk d m t
abbrev hl (d m t r : Int) : HO := .lst [.int d, .int m, .int t, .int r]
inductive SpTake (vs : List V) (H : Hp) (Q : VK) : Prop
  | mk (a : Addr) (d m t r n : Int) (h1 : vs = [.ref a, .int n]) (h2 : Hand H a d m t r) (h3 : t < 1000000) (h4 : 0 < n) (h5 : n < 1000000) (h6 : ∀ (x d' m' t' : Int), 0 ≤ x → x < n → HandOk d' m' t' → t' ≤ t + 1 → Q (.int x) (upd H a (hl d' m' t' r))) : SpTake  vs H Q
def spTake : Sp := fun vs H Q _ => SpTake  vs H Q
theorem eI {X : Cx} {a b : Expr} {ta tb : TE} {pos : Pos} (ha : PE X a ta) (hb : PE X b tb) (hs : PlainIx b := by exact fun _ _ => rfl) : PE X (.Subscript a b pos) (tOp (rIxL X.K) ta tb) := pe_ix ix_list ha hb hs
section
variable {P : Program} {w : World} {K : PySem.W.Frag} {mg : Str → Option Value} {base : Heap} {f : Addr} {fd : FuncData}
theorem scTake : FnScope ["_law_hand_here", "_law_many", "_law_digit", "_law_turn", "_law_mixed"] ["_law_hand_here", "_law_many"] (defScope sTake) := ⟨rfl, rfl, rfl, by decide +kernel, rfl, by decide +kernel, by decide +kernel⟩
theorem at0 {a b c d : V} : atI [a, b, c, d] 0 = some a := rfl
theorem at1 {a b c d : V} : atI [a, b, c, d] 1 = some b := rfl
theorem at2 {a b c d : V} : atI [a, b, c, d] 2 = some c := rfl
theorem ok_take {k : Nat} (F : Fun K "_law_take" "_law_take" sTake f fd) : FnOk P w K mg base CX0 (k + 1) f fd ["_law_hand_here", "_law_many"] spTake := by
  refine F.ok scTake (fun vs H Q E h => ?_) (fun cdv A outer s H vs Q E hr h => ?_)
  · obtain ⟨a, d, m, t, r, n, rfl, _⟩ := h
    rfl
  obtain ⟨a, d, m, t, r, n, rfl, ⟨hH, ok⟩, ht, hn0, hn1, q⟩ := h
  refine ⟨_, pss_cons (ps_if (pt_cmpR op_gt (eI (pv 0) pe_int) pe_int (nomark _))
      (pss_cons (ps_set (i := 2) scTake.nd rfl (Or.inl rfl) (pe_op op_mod (eI (pv 0) pe_int) (pv 1)))
        (pss_cons (ps_asg (pe_op op_fdiv (eI (pv 0) pe_int) (pv 1)) (pg_sub (pv 0) pe_int set_list))
          (pss_one (ps_ret (pv 2))))) pss_nil)
    (pss_cons (ps_asg (pe_op op_add (eI (pv 0) pe_int) pe_int) (pg_sub (pv 0) pe_int set_list))
    (pss_cons (ps_set (i := 3) scTake.nd rfl (Or.inl rfl) (eI (pv 0) pe_int))
    (pss_cons (ps_set (i := 4) scTake.nd rfl (Or.inl rfl) (pe_op op_mod (pe_op op_mul (pe_op op_add (eI (pv 0) pe_int) (pe_op op_mul pe_int (pv 3))) (pe_op op_add pe_int (pe_op op_mul (pv 3) (pv 3)))) pe_int))
    (pss_cons (ps_asg (pe_op op_mod (pe_op op_mul (pv 4) (pe_op op_add (pe_op op_mod (pv 4) pe_int) pe_int)) pe_int) (pg_sub (pv 0) pe_int set_list))
    (pss_one (ps_ret (pe_op op_mod (pe_op op_fdiv (eI (pv 0) pe_int) pe_int) (pv 1)))))))), ?_⟩
  refine ⟨_, rfl, a, _, _, _, rfl, rfl, SqL.of hH, at0, _, _, rfl, rfl, _, rfl, ?_⟩
  refine ite2 (fun c => ?_) (fun c => ?_)
  · have c' : d > 0 := of_decide_eq_true c
    refine ⟨_, rfl, a, _, _, _, rfl, rfl, SqL.of hH, at0, _, rfl, _, _, rfl, rfl, hn0, ?_⟩
    refine ⟨_, rfl, a, _, _, _, rfl, rfl, SqL.of hH, at0, _, rfl, _, _, rfl, rfl, ⟨hn0, by omega⟩, ?_⟩
    refine ⟨_, rfl, a, _, 0, 0, rfl, rfl, hH, rfl, ?_⟩
    refine ⟨_, rfl, ?_⟩
    exact q (d % n) (d / n) m t (Int.emod_nonneg _ (by omega)) (Int.emod_lt_of_pos _ hn0) ⟨Int.ediv_nonneg ok.d0 (by omega), ok.m0, ok.m1, ok.t0⟩ (by omega)
  · refine ⟨_, rfl, a, _, _, _, rfl, rfl, SqL.of hH, at2, _, _, rfl, rfl, ?_⟩
    refine ⟨_, rfl, a, _, 2, 2, rfl, rfl, hH, rfl, ?_⟩
    have H1 : upd H a (.lst ([V.int d, .int m, .int t, .int r].set 2 (.int (t + 1)))) a = some (.lst [.int d, .int m, .int (t + 1), .int r]) := upd_same
    refine ⟨_, rfl, a, _, _, _, rfl, rfl, SqL.of H1, at2, ?_⟩
    refine ⟨_, rfl, a, _, _, _, rfl, rfl, SqL.of H1, at1, _, rfl, _, _, rfl, rfl, .inl (by constructor <;> decide), _, _, rfl, rfl, ?_⟩
    refine ⟨_, rfl, _, rfl, _, _, rfl, rfl, .inl ⟨by have := ok.t0; omega, by omega⟩, _, _, rfl, rfl, _, _, rfl, rfl, .inr ?_, _, _, rfl, rfl, ?_, ?_⟩
    · have h1 : 0 ≤ (t + 1) * (t + 1) := Int.mul_nonneg (by have := ok.t0; omega) (by have := ok.t0; omega)
      have h2 : (t + 1) * (t + 1) ≤ 1000000 * 1000000 := Int.mul_le_mul (by omega) (by omega) (by have := ok.t0; omega) (by omega)
      constructor <;> omega
    · show (0 : Int) < 2305843009213693921
      decide
    have m0 : 0 ≤ (m + 39373 * (t + 1)) * (48271 + (t + 1) * (t + 1)) % 2305843009213693921 := Int.emod_nonneg _ (by decide)
    have m1 : (m + 39373 * (t + 1)) * (48271 + (t + 1) * (t + 1)) % 2305843009213693921 < 2305843009213693921 := Int.emod_lt_of_pos _ (by decide)
    refine ⟨_, rfl, _, rfl, _, _, rfl, rfl, ?_, _, _, rfl, rfl, _, _, rfl, rfl, .inl ⟨by omega, by omega⟩, _, _, rfl, rfl, ?_, ?_⟩
    · show (0 : Int) < 1000003
      decide
    · show (0 : Int) < 2305843009213693907
      decide
    refine ⟨_, rfl, a, _, 1, 1, rfl, rfl, H1, rfl, ?_⟩
    refine ⟨_, rfl, a, _, _, _, rfl, rfl, SqL.of upd_same, rfl, _, _, rfl, rfl, ⟨by decide, by decide⟩, _, rfl, _, _, rfl, rfl, hn0, ?_⟩
    rw [upd_upd]
    exact q _ d _ (t + 1) (Int.emod_nonneg _ (by omega)) (Int.emod_lt_of_pos _ hn0) ⟨ok.d0, Int.emod_nonneg _ (by decide), Int.lt_trans (Int.emod_lt_of_pos _ (by decide)) (by decide), by have := ok.t0; omega⟩ (by omega)
end
def FrS (S : List Addr) (H H' : Hp) : Prop := ∀ b o, b ∉ S → H b = some o → H' b = some o
theorem FrS.refl {S : List Addr} {H : Hp} : FrS S H H := fun _ _ _ h => h
theorem FrS.trans {S : List Addr} {H H1 H2 : Hp} (a : FrS S H H1) (b : FrS S H1 H2) : FrS S H H2 := fun c o n h => b c o n (a c o n h)
theorem FrS.new {S : List Addr} {H : Hp} {a : Addr} {o : HO} (h : H a = none) : FrS S H (upd H a o) := fun b u n q => by
  rw [upd_ne (ne_of_none q h)]; exact q
theorem FrS.seq {S : List Addr} {K : PySem.W.Frag} {H H' : Hp} {a : Addr} {xs : List V} (e : FrS S H H') (n : a ∉ S) (h : SqL K H a xs) : SqL K H' a xs := by
  rcases h with (h | ⟨o, h⟩) | h
  · exact .inl (.inl (e _ _ n h))
  · exact .inl (.inr ⟨o, e _ _ n h⟩)
  · exact .inr h
theorem Hand.at {H : Hp} {a : Addr} {d m t r : Int} (h : HandOk d m t) : Hand (upd H a (hl d m t r)) a d m t r := ⟨upd_same, h⟩
theorem Hand.keep {S : List Addr} {H H' : Hp} {a : Addr} {d m t r : Int} (h : Hand H a d m t r) (f : FrS S H H') (n : a ∉ S) : Hand H' a d m t r := ⟨f _ _ n h.1, h.2⟩
theorem Hand.new {H : Hp} {a b : Addr} {o : HO} {d m t r : Int} (h : Hand H a d m t r) (n : H b = none) : Hand (upd H b o) a d m t r := ⟨by rw [upd_ne (ne_of_none h.1 n)]; exact h.1, h.2⟩

structure Cal (P : Program) (w : World) (K : PySem.W.Frag) (mg : Str → Option Value) (base : Heap) (k : Nat) (x : Str) (ps : List Str) (sp : Sp) : Prop where
  ex : ∃ g gd, FnOk P w K mg base CX0 k g gd ps sp ∧ Binds K gd ps [] ∧ PySem.W.keepIn K (.ref g) = true ∧ mg x = some (.ref g)
inductive SpHand (K : PySem.W.Frag) (vs : List V) (H : Hp) (Q : VK) : Prop
  | mk (p : Addr) (ns : List Int) (k : Nat) (h1 : vs = [.ref p, .int (k : Int)]) (h2 : SqL K H p (ns.map V.int)) (h3 : ns.length ≤ 63) (h4 : k ≤ 63) (h5 : ∀ (a : Addr) (d m : Int), H a = none → HandOk d m 0 → Q (.ref a) (upd H a (hl d m 0 0))) : SpHand K vs H Q
def spHand (K : PySem.W.Frag) : Sp := fun vs H Q _ => SpHand K vs H Q
section
variable {P : Program} {w : World} {K : PySem.W.Frag} {mg : Str → Option Value} {base : Heap} {f : Addr} {fd : FuncData}
theorem scHand : FnScope ["_law_script", "_law_k", "_law_cell"] ["_law_script", "_law_k"] (defScope sHand) := ⟨rfl, rfl, rfl, by decide +kernel, rfl, by decide +kernel, by decide +kernel⟩
theorem hand_end {c k : Int} (h0 : 0 ≤ c) (k0 : 0 ≤ k) (k1 : k ≤ 63) (b : Bool) : HandOk (c * (if b then 1 else 0)) (c % 2305843009213693951 + 7919 * k + 11) 0 := by
  have h1 : 0 ≤ c % 2305843009213693951 := Int.emod_nonneg _ (by decide)
  have h2 : c % 2305843009213693951 < 2305843009213693951 := Int.emod_lt_of_pos _ (by decide)
  refine ⟨?_, by omega, by omega, Int.le_refl 0⟩
  cases b
  · show 0 ≤ c * 0
    omega
  · show 0 ≤ c * 1
    omega
theorem ok_hand {k : Nat} (F : Fun K "_law_hand" "_law_hand" sHand f fd) (ml : mg "len" = none) (ma : mg "abs" = none) (mi : mg "int" = none) : FnOk P w K mg base CX0 (k + 1) f fd ["_law_script", "_law_k"] (spHand K) := by
  refine F.ok scHand (fun vs H Q E h => ?_) (fun cdv A outer s H vs Q E hr h => ?_)
  · obtain ⟨p, ns, k, rfl, _⟩ := h
    rfl
  obtain ⟨p, ns, j, rfl, hS, h63, hk, q⟩ := h
  refine ⟨_, pss_cons (ps_set (i := 2) scHand.nd rfl (Or.inl rfl) pe_int)
    (pss_cons (ps_if (pt_cmpR op_lt (pv 1) (pe_callB call_len_seq rfl ml PySem.boot_len (pa_cons (pv 0) pa_nil)) (nomark _))
      (pss_one (ps_set (i := 2) scHand.nd rfl (Or.inl rfl) (pe_callB call_abs rfl ma (by decide +kernel) (pa_cons (eI (pv 0) (pv 1)) pa_nil)))) pss_nil)
    (pss_one (ps_ret (pe_lst (pa_cons (pe_op op_mul (pv 2) (pe_callTy call_int1 rfl mi (by decide +kernel) (pa_cons (pe_cmpR op_ge (pv 2) (pe_op op_pow pe_int pe_int) (nomark _)) pa_nil)))
      (pa_cons (pe_op op_add (pe_op op_add (pe_op op_mod (pv 2) pe_int) (pe_op op_mul pe_int (pv 1))) pe_int) (pa_cons pe_int (pa_cons pe_int pa_nil)))))))), ?_⟩
  have s1 : ∀ {n : Nat}, n ≤ 1000 → n ≤ sizeLine := fun h => Nat.le_of_lt (small1000 h)
  have hl : (ns.map V.int).length = ns.length := List.length_map _
  refine ⟨_, rfl, _, rfl, p, _, rfl, .inl hS, _, _, rfl, rfl, _, rfl, ?_⟩
  refine ite2 (fun c => ?_) (fun c => ?_)
  · have c' : (j : Int) < (((ns.map V.int).length : Nat) : Int) := of_decide_eq_true c
    rw [hl] at c'
    have hj : j < ns.length := by omega
    have hv : atI (ns.map V.int) (j : Int) = some (.int ns[j]) := atI_nat (by rw [List.getElem?_map, List.getElem?_eq_getElem hj]; rfl)
    refine ⟨_, rfl, _, rfl, p, _, _, _, rfl, rfl, hS, hv, _, rfl, ?_⟩
    have c0 : 0 ≤ (if ns[j] < 0 then -ns[j] else ns[j]) := by split <;> omega
    refine ⟨_, rfl, _, rfl, _, _, rfl, rfl, ⟨by decide, by decide, by decide⟩, _, _, rfl, rfl, .inr ⟨_, rfl, _, _, rfl, rfl, .inr ?_, _, rfl, _, _, rfl, rfl, by show (0 : Int) < 2305843009213693951; decide, _, rfl, _, _, rfl, rfl, .inl (by constructor <;> decide), _, _, rfl, rfl, _, _, rfl, rfl, s1 (by show 4 ≤ 1000; decide), fun a ha => ?_⟩⟩
    · cases decide ((if ns[j] < 0 then -ns[j] else ns[j]) ≥ 10 ^ (18 : Int).toNat) <;> (constructor <;> decide)
    · exact q a _ _ ha (hand_end c0 (by omega) (by omega) _)
  · refine ⟨_, rfl, _, rfl, _, _, rfl, rfl, ⟨by decide, by decide, by decide⟩, _, _, rfl, rfl, .inr ⟨_, rfl, _, _, rfl, rfl, .inr ?_, _, rfl, _, _, rfl, rfl, by show (0 : Int) < 2305843009213693951; decide, _, rfl, _, _, rfl, rfl, .inl (by constructor <;> decide), _, _, rfl, rfl, _, _, rfl, rfl, s1 (by show 4 ≤ 1000; decide), fun a ha => ?_⟩⟩
    · cases decide ((0 : Int) ≥ 10 ^ (18 : Int).toNat) <;> (constructor <;> decide)
    · exact q a _ _ ha (hand_end (Int.le_refl 0) (by omega) (by omega) _)
end
theorem eT {X : Cx} {a b : Expr} {ta tb : TE} {pos : Pos} (ha : PE X a ta) (hb : PE X b tb) (hs : PlainIx b := by exact fun _ _ => rfl) : PE X (.Subscript a b pos) (tOp (rIxT X.K) ta tb) := pe_ix ix_tup ha hb hs
theorem inV_strs (n : Str) (l : List Str) : inV (.str n) (l.map V.str) = decide (n ∈ l) := by
  unfold inV
  induction l with
  | nil => rfl
  | cons x r ih =>
    rw [List.map_cons, List.any_cons, ih]
    have e : eqV (.str x) (.str n) = decide (x = n) := by
      first | rfl | simp [eqV] | (unfold eqV; by_cases h : x = n <;> simp [h])
    rw [e]
    by_cases h : x = n
    · subst h; simp
    · have h' : ¬ n = x := fun z => h z.symm
      simp [h, h']
theorem flat_strs (l : List Str) : (l.map V.str).all flatV = true := by
  rw [List.all_map, List.all_eq_true]
  intro x _
  rfl
theorem FrS.put {S : List Addr} {H H' : Hp} {a : Addr} {o : HO} (f : FrS S H H') (h : H a = none) : FrS S H (upd H' a o) := fun b u n q => by
  rw [upd_ne (ne_of_none q h)]; exact f b u n q
theorem compW_list {K : PySem.W.Frag} {a : Addr} {xs : List V} {g : TG} {tt : TT} {te : TE} {D : Addr} {σ0 : St} {H0 : Hp} {Q : Hp → Prop} (Pv : Nat → St → Hp → Prop) (h0 : Pv 0 σ0 H0) (hl : ∀ i σ H, i ≤ xs.length → Pv i σ H → SqL K H a xs)
    (hs : ∀ i x σ H, xs[i]? = some x → Pv i σ H → g x σ H fun σ2 H2 => tt σ2 H2 fun b H3 => if b = true then te σ2 H3 fun v H4 => ∃ ys, H4 D = some (.lst ys) ∧ ys.length < sizeLine ∧ Pv (i + 1) σ2 (upd H4 D (.lst (ys ++ [v]))) else Pv (i + 1) σ2 H3)
    (hd : ∀ σ H, Pv xs.length σ H → Q H) : CompW (Itl K a) g tt te D σ0 H0 Q := by
  refine ⟨fun i m σ H => m = xs.length - i ∧ i ≤ xs.length ∧ Pv i σ H, ⟨xs.length, by simp, Nat.zero_le _, h0⟩, ?_⟩
  rintro i m σ H ⟨rfl, hi, p⟩
  have q := hl i σ H hi p
  by_cases hlt : i < xs.length
  · refine .inr ⟨⟨xs, xs[i], q, by simp [hlt]⟩, Pv (i + 1), fun σ' H' p' => ⟨xs.length - (i + 1), by omega, rfl, hlt, p'⟩, fun x H' y => ?_⟩
    obtain ⟨e, y⟩ := y
    subst e
    exact hs i x σ _ (y xs q) p
  · have e : i = xs.length := by omega
    subst e
    exact .inl ⟨⟨xs, q, Nat.le_refl _⟩, hd σ H p⟩
theorem compW_range {lo : Int} {n : Nat} {g : TG} {tt : TT} {te : TE} {D : Addr} {σ0 : St} {H0 : Hp} {Q : Hp → Prop} (Pv : Nat → St → Hp → Prop) (h0 : Pv 0 σ0 H0)
    (hs : ∀ i σ H, i < n → Pv i σ H → g (.int (lo + i)) σ H fun σ2 H2 => tt σ2 H2 fun b H3 => if b = true then te σ2 H3 fun v H4 => ∃ ys, H4 D = some (.lst ys) ∧ ys.length < sizeLine ∧ Pv (i + 1) σ2 (upd H4 D (.lst (ys ++ [v]))) else Pv (i + 1) σ2 H3)
    (hd : ∀ σ H, Pv n σ H → Q H) : CompW (Itr lo n) g tt te D σ0 H0 Q := by
  refine ⟨fun i m σ H => m = n - i ∧ i ≤ n ∧ Pv i σ H, ⟨n, by simp, Nat.zero_le _, h0⟩, ?_⟩
  rintro i m σ H ⟨rfl, hi, p⟩
  by_cases hlt : i < n
  · refine .inr ⟨hlt, Pv (i + 1), fun σ' H' p' => ⟨n - (i + 1), by omega, rfl, hlt, p'⟩, fun x H' y => ?_⟩
    obtain ⟨e, y⟩ := y
    subst e y
    exact hs i σ _ hlt p
  · have e : i = n := by omega
    subst e
    exact .inl ⟨Nat.le_refl _, hd σ H p⟩
def Tup (H H' : Hp) : Prop := ∀ b xs, H b = some (.tup xs) → H' b = some (.tup xs)
theorem Tup.trans {A B C : Hp} (f : Tup A B) (g : Tup B C) : Tup A C := fun b xs h => g b xs (f b xs h)
theorem Tup.new {H : Hp} {p : Addr} {o : HO} (hp : H p = none) : Tup H (upd H p o) := fun b xs h => by
  rw [upd_ne (ne_of_none h hp)]; exact h
theorem Tup.lst {H : Hp} {p : Addr} {o : HO} {ys : List V} (hp : H p = some (.lst ys)) : Tup H (upd H p o) := fun b xs h => by
  rw [upd_ne (fun z => by rw [z, hp] at h; cases h)]; exact h
theorem FrS.tup {M : List Addr} {H H' : Hp} (f : FrS M H H') (hm : ∀ b ∈ M, ∀ xs, H b ≠ some (.tup xs)) : Tup H H' := fun b xs h => f b _ (fun z => hm b z xs h) h
def leS (a b : Str) : Prop := a.cps.toList ≤ b.cps.toList
theorem leS_of {a b : Str} (h : (!PySem.Spec.ltCps b.cps.toList a.cps.toList) = true) : leS a b := by
  rw [PyProof.Rows.ltCps_eq] at h
  unfold leS
  exact List.not_lt.mp (by simpa using h)
theorem leS_trans {a b c : Str} (h : leS a b) (g : leS b c) : leS a c := List.le_trans h g
theorem leS_anti {a b : Str} (h : leS a b) (g : leS b a) : a = b := by
  have e := List.le_antisymm h g
  cases a with | mk x => cases b with | mk y => exact congrArg Str.mk (Array.toList_inj.mp e)
theorem rising_pw : ∀ {l : List Str} {p : Str}, PyProof.Rows.risingS p l = true → (p :: l).Pairwise leS
  | [], _, _ => List.pairwise_singleton _ _
  | x :: r, p, h => by
    unfold PyProof.Rows.risingS at h
    rw [Bool.and_eq_true] at h
    have h1 := leS_of h.1
    have h2 := rising_pw h.2
    refine List.Pairwise.cons (fun y hy => ?_) h2
    rcases List.mem_cons.mp hy with rfl | hy
    · exact h1
    · exact leS_trans h1 ((List.pairwise_cons.mp h2).1 y hy)
theorem sorted_pw {l : List Str} (h : PyProof.Rows.sortedS l = true) : l.Pairwise leS := by
  cases l with
  | nil => exact .nil
  | cons x r => exact rising_pw h
theorem sorted_eq {l l' : List Str} (h : l.Pairwise leS) (h' : PyProof.Rows.sortedS l' = true) (hp : l'.Perm l) : l' = l :=
  List.Perm.eq_of_pairwise (fun _ _ _ _ a b => leS_anti a b) (sorted_pw h') h hp
theorem at_hd (x : V) (xs : List V) : atI (x :: xs) 0 = some x := by
  unfold atI ixN
  simp
theorem for_tup {K : PySem.W.Frag} {a : Addr} {xs : List V} {g : TG} {tb : TS} {D : Ends} {σ : St} {H : Hp} (Pv : Nat → St → Hp → Prop) (h0 : Pv 0 σ H) (hl : ∀ i σ H, i ≤ xs.length → Pv i σ H → SqT K H a xs)
    (hs : ∀ i x σ H, xs[i]? = some x → Pv i σ H → g x σ H fun σ2 H2 => tb { D with nx := Pv (i + 1), ct := Pv (i + 1), bk := D.nx } σ2 H2) (hd : ∀ σ H, Pv xs.length σ H → D.nx σ H) :
    ∃ W : Nat → Nat → St → Hp → Prop, (∃ m, W 0 m σ H) ∧ ∀ i m σ H, W i m σ H →
      ((Itt K a).stop i H ∧ D.nx σ H) ∨ ((Itt K a).go i H ∧ ∃ N : St → Hp → Prop, (∀ σ' H', N σ' H' → ∃ m', m' < m ∧ W (i + 1) m' σ' H') ∧ ∀ x H', (Itt K a).yld i H x H' → g x σ H' fun σ2 H2 => tb { D with nx := N, ct := N, bk := D.nx } σ2 H2) := by
  refine ⟨fun i m σ H => m = xs.length - i ∧ i ≤ xs.length ∧ Pv i σ H, ⟨xs.length, by simp, Nat.zero_le _, h0⟩, ?_⟩
  rintro i m σ H ⟨rfl, hi, p⟩
  have q := hl i σ H hi p
  by_cases hlt : i < xs.length
  · refine .inr ⟨⟨xs, xs[i], q, List.getElem?_eq_getElem hlt⟩, Pv (i + 1), fun σ' H' p' => ⟨xs.length - (i + 1), by omega, rfl, hlt, p'⟩, fun x H' y => ?_⟩
    obtain ⟨e, y⟩ := y
    subst e
    exact hs i x σ _ (y xs q) p
  · have e : i = xs.length := by omega
    subst e
    exact .inl ⟨⟨xs, q, Nat.le_refl _⟩, hd σ H p⟩
theorem compW_tup {K : PySem.W.Frag} {a : Addr} {xs : List V} {g : TG} {tt : TT} {te : TE} {D : Addr} {σ0 : St} {H0 : Hp} {Q : Hp → Prop} (Pv : Nat → St → Hp → Prop) (h0 : Pv 0 σ0 H0) (hl : ∀ i σ H, i ≤ xs.length → Pv i σ H → SqT K H a xs)
    (hs : ∀ i x σ H, xs[i]? = some x → Pv i σ H → g x σ H fun σ2 H2 => tt σ2 H2 fun b H3 => if b = true then te σ2 H3 fun v H4 => ∃ ys, H4 D = some (.lst ys) ∧ ys.length < sizeLine ∧ Pv (i + 1) σ2 (upd H4 D (.lst (ys ++ [v]))) else Pv (i + 1) σ2 H3)
    (hd : ∀ σ H, Pv xs.length σ H → Q H) : CompW (Itt K a) g tt te D σ0 H0 Q := by
  refine ⟨fun i m σ H => m = xs.length - i ∧ i ≤ xs.length ∧ Pv i σ H, ⟨xs.length, by simp, Nat.zero_le _, h0⟩, ?_⟩
  rintro i m σ H ⟨rfl, hi, p⟩
  have q := hl i σ H hi p
  by_cases hlt : i < xs.length
  · refine .inr ⟨⟨xs, xs[i], q, by simp [hlt]⟩, Pv (i + 1), fun σ' H' p' => ⟨xs.length - (i + 1), by omega, rfl, hlt, p'⟩, fun x H' y => ?_⟩
    obtain ⟨e, y⟩ := y
    subst e
    exact hs i x σ _ (y xs q) p
  · have e : i = xs.length := by omega
    subst e
    exact .inl ⟨⟨xs, q, Nat.le_refl _⟩, hd σ H p⟩
theorem small6 {n : Nat} (h : n ≤ 1000000) : n < sizeLine := Nat.lt_of_le_of_lt h (by decide)
theorem cut1 (x : V) (rest : List V) : cutV (x :: rest) (some 1) none = rest := by
  unfold cutV HT.sIx
  simp
section
variable {K : PySem.W.Frag}
theorem kit_st : PySem.W.kitOne K (.type "str") (.type "tuple") = some false := by first | rfl | decide +kernel
theorem kit_ss : PySem.W.kitOne K (.type "str") (.type "str") = some true := rfl
theorem kit_it : PySem.W.kitOne K (.type "int") (.type "tuple") = some false := by first | rfl | decide +kernel
end
def Kp (H H' : Hp) : Prop := ∀ b o, H b = some o → H' b = some o
theorem Kp.refl {H : Hp} : Kp H H := fun _ _ h => h
theorem Kp.trans {H H1 H2 : Hp} (a : Kp H H1) (b : Kp H1 H2) : Kp H H2 := fun c o h => b c o (a c o h)
theorem Kp.new {H : Hp} {a : Addr} {o : HO} (h : H a = none) : Kp H (upd H a o) := fun b u q => by
  rw [upd_ne (ne_of_none q h)]; exact q
theorem Kp.put {H H' : Hp} {a : Addr} {o : HO} (f : Kp H H') (h : H a = none) : Kp H (upd H' a o) := fun b u q => by
  rw [upd_ne (ne_of_none q h)]; exact f b u q
theorem Kp.none {H H' : Hp} {p : Addr} (f : Kp H H') (hp : H' p = none) : H p = none := by
  cases hz : H p with
  | none => rfl
  | some o => have := f p o hz; rw [hp] at this; cases this
theorem Kp.seq {K : PySem.W.Frag} {H H' : Hp} {a : Addr} {xs : List V} (f : Kp H H') (h : SqL K H a xs) : SqL K H' a xs := FrS.seq (S := []) (fun b o _ e => f b o e) List.not_mem_nil h
theorem Kp.sqT {K : PySem.W.Frag} {H H' : Hp} {a : Addr} {xs : List V} (f : Kp H H') (h : SqT K H a xs) : SqT K H' a xs := h.imp (fun z => z.elim (fun e => .inl (f _ _ e)) fun ⟨o, e⟩ => .inr ⟨o, f _ _ e⟩) id
theorem comp_bl {K : PySem.W.Frag} {a D : Addr} {xs : List V} {bs : List Bool} {x0 : Option V} {c : List (Option V)} {te : TE} {H : Hp} {Q : Hp → Prop} (hx : SqT K H a xs) (hl : bs.length = xs.length) (hn : xs.length ≤ 1000) (hD : H D = none)
    (hs : ∀ (i : Nat) x b Hx (R : V → Hp → Prop), xs[i]? = some x → bs[i]? = some b → Kp H Hx → (∀ H4, Kp Hx H4 → R (.bl b) H4) → te (some x :: c) Hx R)
    (hd : ∀ Hx, Kp H Hx → Hx D = some (.lst (bs.map V.bl)) → Q Hx) : CompW (Itt K a) (gName 0) tAll te D (x0 :: c) (upd H D (.lst [])) Q := by
  refine compW_tup (xs := xs) (fun i σ Hx => (∃ y, σ = y :: c) ∧ Kp H Hx ∧ Hx D = some (.lst ((bs.take i).map V.bl))) ⟨⟨_, rfl⟩, Kp.new hD, upd_same⟩ ?_ ?_ ?_
  · rintro i σ Hx hi ⟨_, f, _⟩
    exact f.sqT hx
  · rintro i x σ Hx hxi ⟨⟨y, rfl⟩, f, hDx⟩
    have hi : i < bs.length := by rw [hl]; exact (List.getElem?_eq_some_iff.mp hxi).1
    have hb : bs[i]? = some bs[i] := List.getElem?_eq_getElem hi
    show te (some x :: c) Hx _
    refine hs i x _ Hx _ hxi hb f fun H4 f4 => ⟨_, f4 _ _ hDx, small1000 (by rw [List.length_map, List.length_take]; omega), ⟨_, rfl⟩, (f.trans f4).put hD, ?_⟩
    rw [upd_same, List.take_add_one, hb, List.map_append]
    rfl
  · rintro σ Hx ⟨_, f, hDx⟩
    rw [← hl, List.take_of_length_le (Nat.le_refl _)] at hDx
    exact hd Hx f hDx
end Gn
end
section
set_option Elab.async false
set_option linter.all false
set_option maxRecDepth 100000
namespace Gn
open PySem L2
abbrev sWord : Stmt := top 21
abbrev sTup : Stmt := top 22
abbrev sUnl : Stmt := top 23
abbrev sPar : Stmt := top 24
def chB (c : Nat) : Bool := (!decide ([c] < [97])) && !decide ([122] < [c])
def wordB (x : Str) : Bool := decide ((1 : Int) ≤ (x.length : Int)) && decide ((x.length : Int) ≤ 8) && (x.cps.toList.map chB).all id
inductive SpWord (vs : List V) (H : Hp) (Q : VK) : Prop
  | mk (x : Str) (h1 : vs = [.str x]) (h2 : x.length ≤ 1000) (h3 : ∀ H', Kp H H' → Q (.bl (wordB x)) H') : SpWord vs H Q
def spWord : Sp := fun vs H Q _ => SpWord vs H Q
section
variable {P : Program} {w : World} {K : PySem.W.Frag} {mg : Str → Option Value} {base : Heap} {f : Addr} {fd : FuncData}
theorem scWord : FnScope ["thing"] ["thing"] (defScope sWord) := ⟨rfl, rfl, rfl, by decide +kernel, rfl, by decide +kernel, by decide +kernel⟩
theorem ok_word {k : Nat} {t8 : Nat} (F : Fun K "is_word" "is_word" sWord f fd) (m8 : mg "MOST_LETTERS" = some (.int 8 t8)) (mi : mg "isinstance" = none) (ms : mg "str" = none) (ml : mg "len" = none) (mall : mg "all" = none) : FnOk P w K mg base CX0 (k + 1) f fd ["thing"] spWord := by
  refine F.ok scWord (fun vs H Q E h => ?_) (fun cdv A outer s H vs Q E hr h => ?_)
  · obtain ⟨x, rfl, _⟩ := h
    rfl
  obtain ⟨x, rfl, hx, q⟩ := h
  have nd1 : (["letter"] : List Str).Nodup := by decide +kernel
  refine ⟨_, pss_cons (ps_if (PW.pt (pw_or (pt_not (pt_val (pe_callB call_isinst rfl mi (by decide +kernel) (pa_cons (pv 0) (pa_cons (pe_bltn (v := .ty "str") rfl ms (by decide +kernel) rfl) pa_nil)))))
        (pw_or1 (pt_not (pt_chain op_le op_le pe_int (pe_callB call_len_str rfl ml PySem.boot_len (pa_cons (pv 0) pa_nil)) (pe_glob (v := .int 8) rfl m8 ⟨_, rfl⟩))))))
      (pss_one (ps_ret pe_bl)) pss_nil)
    (pss_one (ps_ret (pe_callB (call_all rfl) rfl mall (by decide +kernel) (pa_cons (pe_comp (N' := ["letter"]) (src := [none]) rfl ⟨rfl, by decide +kernel, by decide +kernel, rfl, rfl, rfl⟩
        (pi_str (pv 0)) (g := gName 0) (fun _ _ _ _ => pg_name (i := 0) nd1 rfl (Or.inl rfl) (Or.inr rfl)) (fun _ _ _ _ => pts_nil)
        (te := tChain (fun x y H Q => ∃ i j, x = .str i ∧ y = .str j ∧ Q (.bl (!decide (j.cps.toList < i.cps.toList))) H) (fun x y H Q => ∃ i j, x = .str i ∧ y = .str j ∧ Q (.bl (!decide (j.cps.toList < i.cps.toList))) H) (tC (.str "a")) (tVar 0) (tC (.str "z")))
        (fun _ _ _ _ => pe_chain op_le_str op_le_str pe_str (pv 0) pe_str)) pa_nil)))), ?_⟩
  first | dsimp only [cxOf, Cx.nox] | skip
  refine ⟨_, rfl, _, _, _, true, rfl, .str x, kit_ss, _, rfl, ?_⟩
  refine ⟨_, rfl, x, rfl, Nat.le_of_lt (small1000 hx), ?_⟩
  refine ⟨_, _, rfl, rfl, _, rfl, ?_⟩
  refine ite2 (fun c1 => ?_) (fun c1 => ?_)
  · refine ⟨_, _, rfl, rfl, _, rfl, ?_⟩
    refine ite2 (fun c2 => ?_) (fun c2 => ?_)
    · refine q H Kp.refl |> fun h => ?_
      have e : wordB x = false := by
        unfold wordB
        have c3 : decide ((x.length : Int) ≤ 8) = false := by simpa using c2
        rw [c3, Bool.and_false, Bool.false_and]
      rw [e] at h
      exact h
    · have c3 : decide ((x.length : Int) ≤ 8) = true := by simpa using c2
      have ew : wordB x = (x.cps.toList.map chB).all id := by
        unfold wordB
        rw [c1, c3, Bool.true_and, Bool.true_and]
      refine ⟨_, rfl, x, rfl, fun D hD => ?_⟩
      refine compW_str (fun i σ Hx => (∃ y, σ = [y]) ∧ Kp H Hx ∧ Hx D = some (.lst (((x.cps.toList.map chB).take i).map V.bl))) ⟨⟨_, rfl⟩, Kp.new hD, upd_same⟩ ?_ ?_
      · rintro i c σ Hx hc ⟨⟨y, rfl⟩, f, hDx⟩
        have hb : (x.cps.toList.map chB)[i]? = some (chB c) := by rw [List.getElem?_map, Array.getElem?_toList, hc]; rfl
        have hi : i < x.cps.size := (Array.getElem?_eq_some_iff.mp hc).1
        have fin : ∃ ys, Hx D = some (.lst ys) ∧ ys.length < sizeLine ∧ ((∃ y, [some (sgn c)] = [y]) ∧ Kp H (upd Hx D (.lst (ys ++ [.bl (chB c)]))) ∧ upd Hx D (.lst (ys ++ [.bl (chB c)])) D = some (.lst (((x.cps.toList.map chB).take (i + 1)).map V.bl))) := by
          refine ⟨_, hDx, small1000 ?_, ⟨_, rfl⟩, f.put hD, ?_⟩
          · rw [List.length_map, List.length_take]
            have : x.cps.size ≤ 1000 := hx
            omega
          · rw [upd_same, List.take_add_one, hb, List.map_append]
            rfl
        refine ⟨_, rfl, _, _, rfl, rfl, _, rfl, ?_⟩
        refine ite2 (fun d1 => ?_) (fun d1 => ?_)
        · have e : chB c = !decide ([122] < [c]) := by
            unfold chB
            have d1' : (!decide ([c] < [97])) = true := d1
            rw [d1', Bool.true_and]
          refine ⟨_, _, rfl, rfl, ?_⟩
          rw [e] at fin
          exact fin
        · have e : chB c = false := by
            unfold chB
            have d1' : (!decide ([c] < [97])) = false := by cases h : (!decide ([c] < [97])) with
              | true => exact absurd h d1
              | false => rfl
            rw [d1', Bool.false_and]
          rw [e] at fin
          exact fin
      · rintro σ Hx ⟨_, f, hDx⟩
        have hl : (x.cps.toList.map chB).take x.cps.size = x.cps.toList.map chB := List.take_of_length_le (by rw [List.length_map, Array.length_toList]; exact Nat.le_refl _)
        rw [hl] at hDx
        refine ⟨D, _, rfl, SqL.of hDx, ?_⟩
        rw [← ew]
        exact q Hx f
  · refine ⟨_, rfl, ?_⟩
    refine q H Kp.refl |> fun h => ?_
    have e : wordB x = false := by
      unfold wordB
      have c3 : decide ((1 : Int) ≤ (x.length : Int)) = false := by cases h : decide ((1 : Int) ≤ (x.length : Int)) with
        | true => exact absurd h c1
        | false => rfl
      rw [c3, Bool.false_and, Bool.false_and]
    rw [e] at h
    exact h
end
end Gn
end
section
set_option Elab.async false
set_option linter.all false
set_option maxRecDepth 100000
namespace Gn
open PySem L2
inductive SpTupT (K : PySem.W.Frag) (vs : List V) (H : Hp) (Q : VK) : Prop
  | no (v : V) (t : Value) (lo hi : Int) (h1 : vs = [v, .int lo, .int hi]) (h2 : TyOf K H v t) (h3 : PySem.W.kitOne K t (.type "tuple") = some false) (h4 : Q (.bl false) H) : SpTupT K vs H Q
  | yes (a : Addr) (xs : List V) (lo hi : Int) (h1 : vs = [.ref a, .int lo, .int hi]) (h2 : H a = some (.tup xs)) (h4 : Q (.bl (decide (lo ≤ (xs.length : Int)) && decide ((xs.length : Int) ≤ hi))) H) : SpTupT K vs H Q
def spTupT (K : PySem.W.Frag) : Sp := fun vs H Q _ => SpTupT K vs H Q
theorem notT {c : Bool} (h : ¬ c = true) : c = false := by cases c with
  | true => exact absurd rfl h
  | false => rfl
theorem nb {c : Bool} (h : (!c) = true) : c = false := by simpa using h
theorem nb' {c : Bool} (h : ¬ (!c) = true) : c = true := by simpa using h
theorem mb {ps : List Str} {i : Nat} {x : V} (h : (ps.map V.str)[i]? = some x) : ∃ y, ps[i]? = some y ∧ x = .str y := by
  rw [List.getElem?_map, Option.map_eq_some_iff] at h
  obtain ⟨y, hy, e⟩ := h
  exact ⟨y, hy, e.symm⟩
theorem mb2 {α : Type} {ps : List α} {g : α → Bool} {i : Nat} {b : Bool} {y : α} (h : (ps.map g)[i]? = some b) (hy : ps[i]? = some y) : b = g y := by
  rw [List.getElem?_map, hy] at h
  exact (Option.some.inj h).symm
theorem same_len {α : Type} [DecidableEq α] : ∀ {l l' : List α}, l.Nodup → l'.Nodup → (∀ x, x ∈ l ↔ x ∈ l') → l.length = l'.length := by
  intro l
  induction l with
  | nil =>
    intro l' _ _ h
    cases l' with
    | nil => rfl
    | cons x r => exact absurd ((h x).mpr List.mem_cons_self) List.not_mem_nil
  | cons a l ih =>
    intro l' n n' h
    have ha : a ∈ l' := (h a).mp List.mem_cons_self
    have hn := List.nodup_cons.mp n
    have e := ih hn.2 (n'.erase a) fun x => by
      rw [n'.mem_erase_iff]
      refine ⟨fun hx => ⟨fun z => hn.1 (z ▸ hx), (h x).mp (List.mem_cons_of_mem _ hx)⟩, fun hx => ?_⟩
      rcases List.mem_cons.mp ((h x).mpr hx.2) with z | z
      · exact absurd z hx.1
      · exact z
    rw [List.length_erase_of_mem ha] at e
    have := List.length_pos_of_mem ha
    rw [List.length_cons]
    omega
inductive SpUnl (K : PySem.W.Frag) (vs : List V) (H : Hp) (Q : VK) : Prop
  | mk (a : Addr) (xs : List Str) (h1 : vs = [.ref a]) (h2 : SqT K H a (xs.map V.str) ∨ SqL K H a (xs.map V.str)) (h3 : xs.Nodup) (h4 : xs.length ≤ 500) (h5 : ∀ H', Kp H H' → Q (.bl true) H') : SpUnl K vs H Q
def spUnl (K : PySem.W.Frag) : Sp := fun vs H Q _ => SpUnl K vs H Q
def parB (ps : List Str) : Bool := decide ((ps.length : Int) ≤ 4) && (ps.map wordB).all id && !decide (("own" : Str) ∈ ps)
inductive SpPar (vs : List V) (H : Hp) (Q : VK) : Prop
  | mk (a : Addr) (ps : List Str) (h1 : vs = [.ref a]) (h2 : H a = some (.tup (ps.map V.str))) (h3 : ps.Nodup) (h4 : ps.length ≤ 100) (h5 : ∀ x ∈ ps, x.length ≤ 1000) (h6 : ∀ H', Kp H H' → Q (.bl (parB ps)) H') : SpPar vs H Q
def spPar : Sp := fun vs H Q _ => SpPar vs H Q
theorem eq_i (n m : Int) (h : n = m) : decide (V.int n = V.int m) = true := by subst h; exact decide_eq_true rfl
section
variable {P : Program} {w : World} {K : PySem.W.Frag} {mg : Str → Option Value} {base : Heap} {f : Addr} {fd : FuncData}
abbrev pTup : List Str := ["thing", "least", "most"]
theorem scTup : FnScope pTup pTup (defScope sTup) := ⟨rfl, rfl, rfl, by decide +kernel, rfl, by decide +kernel, by decide +kernel⟩
theorem ok_tup {k : Nat} (F : Fun K "is_tuple" "is_tuple" sTup f fd) (mi : mg "isinstance" = none) (mt : mg "tuple" = none) (ml : mg "len" = none) : FnOk P w K mg base CX0 (k + 1) f fd pTup (spTupT K) := by
  refine F.ok scTup (fun vs H Q E h => ?_) (fun cdv A outer s H vs Q E hr h => ?_)
  · rcases h with ⟨v, t, lo, hi, rfl, _⟩ | ⟨a, xs, lo, hi, rfl, _⟩ <;> rfl
  refine ⟨_, pss_one (ps_ret (pe_and (pe_callB call_isinst rfl mi (by decide +kernel) (pa_cons (pv 0) (pa_cons (pe_bltn (v := .ty "tuple") rfl mt (by decide +kernel) rfl) pa_nil)))
    (pe_one (pe_chain op_le op_le (pv 1) (pe_callB call_len_seq rfl ml PySem.boot_len (pa_cons (pv 0) pa_nil)) (pv 2))))), ?_⟩
  first | dsimp only [cxOf, Cx.nox] | skip
  rcases h with ⟨v, t, lo, hi, rfl, h2, h3, q⟩ | ⟨a, xs, lo, hi, rfl, h2, q⟩
  · exact ⟨_, rfl, _, _, _, false, rfl, h2, h3, _, rfl, q⟩
  · refine ⟨_, rfl, _, _, _, true, rfl, .tup h2, (show PySem.W.kitOne K (.type "tuple") (.type "tuple") = some true from rfl), _, rfl, ?_⟩
    refine ⟨_, rfl, _, rfl, a, xs, rfl, .inr (SqT.of h2), _, _, rfl, rfl, _, rfl, ?_⟩
    refine ite2 (fun c => ?_) (fun c => ?_)
    · rw [c, Bool.true_and] at q
      exact ⟨_, rfl, _, _, rfl, rfl, q⟩
    · rw [notT c, Bool.false_and] at q
      exact q
theorem scUnl : FnScope ["words"] ["words"] (defScope sUnl) := ⟨rfl, rfl, rfl, by decide +kernel, rfl, by decide +kernel, by decide +kernel⟩
theorem ok_unl {k : Nat} (F : Fun K "are_unlike" "are_unlike" sUnl f fd) (ml : mg "len" = none) (mse : mg "set" = none) : FnOk P w K mg base CX0 (k + 1) f fd ["words"] (spUnl K) := by
  refine F.ok scUnl (fun vs H Q E h => ?_) (fun cdv A outer s H vs Q E hr h => ?_)
  · obtain ⟨a, xs, rfl, _⟩ := h
    rfl
  obtain ⟨a, xs, rfl, h2, h3, h4, q⟩ := h
  refine ⟨_, pss_one (ps_ret (pe_cmpR op_eq (pe_callB call_lenS rfl ml PySem.boot_len (pa_cons (pe_callTy (call_setS rfl) rfl mse (by decide +kernel) (pa_cons (pv 0) pa_nil)) pa_nil)) (pe_callB call_len_seq rfl ml PySem.boot_len (pa_cons (pv 0) pa_nil)) (nomark _))), ?_⟩
  first | dsimp only [cxOf, Cx.nox] | skip
  refine ⟨_, rfl, a, xs, rfl, h2, by omega, fun l ss hl n m => ?_⟩
  have el : ss.length = xs.length := same_len n h3 m
  have kp : Kp H (upd H l (setO w l ss)) := Kp.new hl
  refine ⟨l, ss, rfl, upd_same, by omega, ?_⟩
  refine ⟨_, rfl, a, _, rfl, (h2.imp kp.sqT kp.seq).symm, rfl, ?_⟩
  rw [List.length_map, eq_i _ _ (by rw [el])]
  exact q _ kp
theorem scPar : FnScope ["thing"] ["thing"] (defScope sPar) := ⟨rfl, rfl, rfl, by decide +kernel, rfl, by decide +kernel, by decide +kernel⟩
theorem ok_par {k : Nat} {t4 to : Nat} (F : Fun K "are_params" "are_params" sPar f fd) (T : Cal P w K mg base k "is_tuple" pTup (spTupT K)) (W : Cal P w K mg base k "is_word" ["thing"] spWord) (U : Cal P w K mg base k "are_unlike" ["words"] (spUnl K))
    (m4 : mg "MOST_PARAMS" = some (.int 4 t4)) (mo : mg "OWN" = some (.str "own" to)) (mall : mg "all" = none) : FnOk P w K mg base CX0 (k + 1) f fd ["thing"] spPar := by
  obtain ⟨g, gd, GT, bT, kT, mT⟩ := T.ex
  obtain ⟨g2, gd2, GW, bW, kW, mW⟩ := W.ex
  obtain ⟨g3, gd3, GU, bU, kU, mU⟩ := U.ex
  refine F.ok scPar (fun vs H Q E h => ?_) (fun cdv A outer s H vs Q E hr h => ?_)
  · obtain ⟨a, ps, rfl, _⟩ := h
    rfl
  obtain ⟨a, ps, rfl, ha, hn, hl, hw, q⟩ := h
  have nd1 : (["word"] : List Str).Nodup := by decide +kernel
  refine ⟨_, pss_cons (ps_if (PW.pt (pw_or (pt_not (pt_val (pe_call GT hr rfl mT kT bT .nil pass0 (pa_cons (pv 0) (pa_cons pe_int (pa_cons (pe_glob (v := .int 4) rfl m4 ⟨_, rfl⟩) pa_nil))))))
        (pw_or1 (pt_not (pt_val (pe_callB (call_all rfl) rfl mall (by decide +kernel) (pa_cons (pe_comp (N' := ["word"]) (src := [none]) rfl ⟨rfl, by decide +kernel, by decide +kernel, rfl, rfl, rfl⟩
          (pi_tup (pv 0)) (g := gName 0) (fun _ _ _ _ => pg_name (i := 0) nd1 rfl (Or.inl rfl) (Or.inr rfl)) (fun _ _ _ _ => pts_nil)
          (te := tCall spWord [] E0 (tCons (tVar 0) tNil)) (fun _ _ _ _ => pe_call GW hr rfl mW kW bW .nil pass0 (pa_cons (pv 0) pa_nil))) pa_nil)))))))
      (pss_one (ps_ret pe_bl)) pss_nil)
    (pss_one (ps_ret (pe_and (pe_cmpR op_notIn_seq (pe_glob (v := .str "own") rfl mo ⟨_, rfl⟩) (pv 0) rfl) (pe_one (pe_call GU hr rfl mU kU bU .nil pass0 (pa_cons (pv 0) pa_nil)))))), ?_⟩
  first | dsimp only [cxOf, Cx.nox] | skip
  refine ⟨_, rfl, .yes a _ 0 4 rfl ha ⟨_, rfl, ?_⟩⟩
  rw [List.length_map]
  have c0 : decide ((0 : Int) ≤ ((ps.length : Nat) : Int)) = true := decide_eq_true (Int.natCast_nonneg _)
  rw [c0, Bool.true_and]
  refine ite2 (fun c => ?_) (fun c => ?_)
  · have e : parB ps = false := by unfold parB; rw [nb c, Bool.false_and, Bool.false_and]
    have := q H Kp.refl
    rw [e] at this
    exact this
  · have c1 := nb' c
    refine ⟨_, rfl, a, rfl, ⟨_, SqT.of ha⟩, fun D hD => ?_⟩
    refine comp_bl (xs := ps.map V.str) (bs := ps.map wordB) (c := []) (SqT.of ha) (by rw [List.length_map, List.length_map]) (by rw [List.length_map]; omega) hD ?_ ?_
    · intro i x b Hx R hx hb f r
      obtain ⟨y, hy, rfl⟩ := mb hx
      cases mb2 hb hy
      exact ⟨_, rfl, y, rfl, hw y (List.mem_of_getElem? hy), r⟩
    · intro Hx f hDx
      refine ⟨D, _, rfl, SqL.of hDx, _, rfl, ?_⟩
      refine ite2 (fun d => ?_) (fun d => ?_)
      · have e : parB ps = false := by unfold parB; rw [nb d, Bool.and_false, Bool.false_and]
        have := q Hx f
        rw [e] at this
        exact this
      · have d1 := nb' d
        have e : parB ps = !decide (("own" : Str) ∈ ps) := by unfold parB; rw [c1, d1, Bool.true_and, Bool.true_and]
        have hax := f _ _ ha
        refine ⟨_, rfl, a, _, rfl, .inr (SqT.of hax), rfl, flat_strs _, _, rfl, ?_⟩
        show if (!inV (.str "own") (ps.map V.str)) = true then _ else _
        rw [inV_strs, ← e]
        refine ite2 (fun z => ?_) (fun z => ?_)
        · refine ⟨_, rfl, a, ps, rfl, .inl (SqT.of hax), hn, by omega, fun H' f' => ?_⟩
          have := q H' (f.trans f')
          rw [z] at this
          exact this
        · have := q Hx f
          rw [notT z] at this
          exact this
end
end Gn
end
section
set_option Elab.async false
set_option linter.all false
set_option maxRecDepth 100000
namespace Gn
open PySem L2
abbrev sDeed : Stmt := top 25
abbrev sDeeds : Stmt := top 26
abbrev sKind : Stmt := top 27
abbrev sKinds : Stmt := top 28
abbrev Dd := Str × List Str × Nat
abbrev Kd := Str × List Dd
def SayAt (H : Hp) (r : Addr) : Prop := H r = some (.tup [.str "say", .str "zz"])
def RowsAt (H : Hp) : Nat → Nat → Addr → Prop
  | 0, n, p => ∃ rs : List Addr, H p = some (.tup (rs.map V.ref)) ∧ rs.length = n ∧ ∀ r ∈ rs, SayAt H r
  | d + 1, n, p => ∃ (rs : List Addr) (q p' : Addr), H p = some (.tup ((rs ++ [q]).map V.ref)) ∧ rs.length = n ∧ (∀ r ∈ rs, SayAt H r) ∧ H q = some (.tup [.str "again", .ref p']) ∧ RowsAt H d 0 p'
inductive DeedAt (H : Hp) (g : Addr) (d : Dd) : Prop
  | mk (pt rt : Addr) (h1 : H g = some (.tup [.str d.1, .ref pt, .ref rt, .non])) (h2 : H pt = some (.tup (d.2.1.map V.str))) (h3 : RowsAt H 0 d.2.2 rt) : DeedAt H g d
inductive KindAt (H : Hp) (t : Addr) (k : Kd) : Prop
  | mk (dt : Addr) (gs : List Addr) (h1 : H t = some (.tup [.str k.1, .non, .ref dt])) (h2 : H dt = some (.tup (gs.map V.ref))) (h3 : A2 (DeedAt H) gs k.2) : KindAt H t k
theorem RowsAt.keep {H H' : Hp} (f : Kp H H') : ∀ {d n : Nat} {p : Addr}, RowsAt H d n p → RowsAt H' d n p
  | 0, _, _, ⟨rs, h1, h2, h3⟩ => ⟨rs, f _ _ h1, h2, fun r hr => f _ _ (h3 r hr)⟩
  | _ + 1, _, _, ⟨rs, q, p', h1, h2, h3, h4, h5⟩ => ⟨rs, q, p', f _ _ h1, h2, fun r hr => f _ _ (h3 r hr), f _ _ h4, RowsAt.keep f h5⟩
theorem DeedAt.keep {H H' : Hp} (f : Kp H H') {g : Addr} {d : Dd} (h : DeedAt H g d) : DeedAt H' g d := by
  obtain ⟨pt, rt, h1, h2, h3⟩ := h
  exact ⟨pt, rt, f _ _ h1, f _ _ h2, h3.keep f⟩
theorem KindAt.keep {H H' : Hp} (f : Kp H H') {t : Addr} {k : Kd} (h : KindAt H t k) : KindAt H' t k := by
  obtain ⟨dt, gs, h1, h2, h3⟩ := h
  exact ⟨dt, gs, f _ _ h1, f _ _ h2, h3.imp fun _ _ g => g.keep f⟩
def DOk (d : Dd) : Prop := d.1.length ≤ 1000 ∧ d.2.1.Nodup ∧ d.2.1.length ≤ 100 ∧ ∀ x ∈ d.2.1, x.length ≤ 1000
def DsOk (ds : List Dd) : Prop := (∀ d ∈ ds, DOk d) ∧ (ds.map (·.1)).Nodup ∧ ds.length ≤ 100
def KOk (k : Kd) : Prop := k.1.length ≤ 1000 ∧ DsOk k.2
def deedB (d : Dd) : Bool := wordB d.1 && parB d.2.1
def deedsB (ds : List Dd) : Bool := decide ((ds.length : Int) ≤ 6) && (ds.map deedB).all id
def kindB (k : Kd) (ah : List Str) : Bool := wordB k.1 && !decide (k.1 ∈ ah) && deedsB k.2
def goB : List Kd → List Str → Bool
  | [], _ => true
  | k :: r, ah => kindB k ah && goB r (ah ++ [k.1])
def kindsB (ks : List Kd) : Bool := decide ((1 : Int) ≤ (ks.length : Int)) && decide ((ks.length : Int) ≤ 12) && goB ks []
theorem comp_v {K : PySem.W.Frag} {a D : Addr} {xs vs : List V} {x0 : Option V} {c : List (Option V)} {te : TE} {H : Hp} {Q : Hp → Prop} (hx : SqT K H a xs) (hl : vs.length = xs.length) (hn : xs.length ≤ 1000) (hD : H D = none)
    (hs : ∀ (i : Nat) x v Hx (R : V → Hp → Prop), xs[i]? = some x → vs[i]? = some v → Kp H Hx → (∀ H4, Kp Hx H4 → R v H4) → te (some x :: c) Hx R)
    (hd : ∀ Hx, Kp H Hx → Hx D = some (.lst vs) → Q Hx) : CompW (Itt K a) (gName 0) tAll te D (x0 :: c) (upd H D (.lst [])) Q := by
  refine compW_tup (xs := xs) (fun i σ Hx => (∃ y, σ = y :: c) ∧ Kp H Hx ∧ Hx D = some (.lst (vs.take i))) ⟨⟨_, rfl⟩, Kp.new hD, upd_same⟩ ?_ ?_ ?_
  · rintro i σ Hx hi ⟨_, f, _⟩
    exact f.sqT hx
  · rintro i x σ Hx hxi ⟨⟨y, rfl⟩, f, hDx⟩
    have hi : i < vs.length := by rw [hl]; exact (List.getElem?_eq_some_iff.mp hxi).1
    have hb : vs[i]? = some vs[i] := List.getElem?_eq_getElem hi
    show te (some x :: c) Hx _
    refine hs i x _ Hx _ hxi hb f fun H4 f4 => ⟨_, f4 _ _ hDx, small1000 (by rw [List.length_take]; omega), ⟨_, rfl⟩, (f.trans f4).put hD, ?_⟩
    rw [upd_same, List.take_add_one, hb]
    rfl
  · rintro σ Hx ⟨_, f, hDx⟩
    rw [← hl, List.take_of_length_le (Nat.le_refl _)] at hDx
    exact hd Hx f hDx
inductive SpDeed (vs : List V) (H : Hp) (Q : VK) : Prop
  | mk (g : Addr) (d : Dd) (h1 : vs = [.ref g]) (h2 : DeedAt H g d) (h3 : DOk d) (h4 : ∀ H', Kp H H' → Q (.bl (deedB d)) H') : SpDeed vs H Q
def spDeed : Sp := fun vs H Q _ => SpDeed vs H Q
inductive SpDeeds (vs : List V) (H : Hp) (Q : VK) : Prop
  | mk (a : Addr) (gs : List Addr) (ds : List Dd) (h1 : vs = [.ref a]) (h2 : H a = some (.tup (gs.map V.ref))) (h3 : A2 (DeedAt H) gs ds) (h4 : DsOk ds) (h5 : ∀ H', Kp H H' → Q (.bl (deedsB ds)) H') : SpDeeds vs H Q
def spDeeds : Sp := fun vs H Q _ => SpDeeds vs H Q
inductive SpKind (vs : List V) (H : Hp) (Q : VK) : Prop
  | mk (t l : Addr) (k : Kd) (ah : List Str) (h1 : vs = [.ref t, .ref l]) (h2 : KindAt H t k) (h3 : KOk k) (h4 : H l = some (.lst (ah.map V.str))) (h5 : ∀ H', Kp H H' → Q (.bl (kindB k ah)) H') : SpKind vs H Q
def spKind : Sp := fun vs H Q _ => SpKind vs H Q
inductive SpKinds (K : PySem.W.Frag) (vs : List V) (H : Hp) (Q : VK) : Prop
  | no (v : V) (t : Value) (h1 : vs = [v]) (h2 : TyOf K H v t) (h3 : PySem.W.kitOne K t (.type "tuple") = some false) (h4 : Q (.bl false) H) : SpKinds K vs H Q
  | mk (a : Addr) (ts : List Addr) (ks : List Kd) (h1 : vs = [.ref a]) (h2 : H a = some (.tup (ts.map V.ref))) (h3 : A2 (KindAt H) ts ks) (h4 : ∀ k ∈ ks, KOk k) (h5 : ks.length ≤ 100) (h6 : ∀ H', Kp H H' → Q (.bl (kindsB ks)) H') : SpKinds K vs H Q
def spKinds (K : PySem.W.Frag) : Sp := fun vs H Q _ => SpKinds K vs H Q
theorem mbr {ps : List Addr} {i : Nat} {x : V} (h : (ps.map V.ref)[i]? = some x) : ∃ y, ps[i]? = some y ∧ x = .ref y := by
  rw [List.getElem?_map, Option.map_eq_some_iff] at h
  obtain ⟨y, hy, e⟩ := h
  exact ⟨y, hy, e.symm⟩
section
variable {P : Program} {w : World} {K : PySem.W.Frag} {mg : Str → Option Value} {base : Heap} {f : Addr} {fd : FuncData}
theorem scDeed : FnScope ["thing", "deed", "params", "rows", "gives"] ["thing"] (defScope sDeed) := ⟨rfl, rfl, rfl, by decide +kernel, rfl, by decide +kernel, by decide +kernel⟩
theorem ok_deed {k : Nat} (F : Fun K "is_deed" "is_deed" sDeed f fd) (T : Cal P w K mg base k "is_tuple" pTup (spTupT K)) (W : Cal P w K mg base k "is_word" ["thing"] spWord) (U : Cal P w K mg base k "are_params" ["thing"] spPar) : FnOk P w K mg base CX0 (k + 1) f fd ["thing"] spDeed := by
  obtain ⟨g, gd, GT, bT, kT, mT⟩ := T.ex
  obtain ⟨g2, gd2, GW, bW, kW, mW⟩ := W.ex
  obtain ⟨g3, gd3, GU, bU, kU, mU⟩ := U.ex
  refine F.ok scDeed (fun vs H Q E h => ?_) (fun cdv A outer s H vs Q E hr h => ?_)
  · obtain ⟨g, d, rfl, _⟩ := h
    rfl
  obtain ⟨a, d, rfl, ⟨pt, rt, h1, h2, h3⟩, ⟨o1, o2, o3, o4⟩, q⟩ := h
  refine ⟨_, pss_cons (ps_if (pt_not (pt_val (pe_call GT hr rfl mT kT bT .nil pass0 (pa_cons (pv 0) (pa_cons pe_int (pa_cons pe_int pa_nil)))))) (pss_one (ps_ret pe_bl)) pss_nil)
    (pss_cons (ps_asg (pv 0) (pg_tup (n := 4) rfl (pgs_cons (pg_name (i := 1) scDeed.nd rfl (Or.inl rfl)) (pgs_cons (pg_name (i := 2) scDeed.nd rfl (Or.inl rfl)) (pgs_cons (pg_name (i := 3) scDeed.nd rfl (Or.inl rfl)) (pgs_cons (pg_name (i := 4) scDeed.nd rfl (Or.inl rfl)) pgs_nil))))))
    (pss_one (ps_ret (pe_and (pe_call GW hr rfl mW kW bW .nil pass0 (pa_cons (pv 1) pa_nil)) (pe_and (pe_call GU hr rfl mU kU bU .nil pass0 (pa_cons (pv 2) pa_nil))
      (pe_one (pe_or (pe_cmp (pc_isN (pv 4))) (pe_one (pe_call GW hr rfl mW kW bW .nil pass0 (pa_cons (pv 4) pa_nil)))))))))), ?_⟩
  first | dsimp only [cxOf, Cx.nox] | skip
  refine ⟨_, rfl, .yes a _ 4 4 rfl h1 ⟨_, rfl, ?_⟩⟩
  refine ⟨_, rfl, a, _, rfl, SqT.of h1, rfl, _, _, rfl, _, _, rfl, _, _, rfl, _, _, rfl, rfl, ?_⟩
  refine ⟨_, rfl, d.1, rfl, o1, fun H1 f1 => ⟨_, rfl, ?_⟩⟩
  refine ite2 (fun c => ?_) (fun c => ?_)
  · refine ⟨_, rfl, pt, d.2.1, rfl, f1 _ _ h2, o2, o3, o4, fun H2 f2 => ⟨_, rfl, ?_⟩⟩
    have e : deedB d = parB d.2.1 := by unfold deedB; rw [c, Bool.true_and]
    have q2 := q H2 (f1.trans f2)
    rw [e] at q2
    refine ite2 (fun c2 => ?_) (fun c2 => ?_)
    · rw [c2] at q2
      exact ⟨_, rfl, _, rfl, q2⟩
    · rw [notT c2] at q2
      exact q2
  · have e : deedB d = false := by unfold deedB; rw [notT c, Bool.false_and]
    have q1 := q H1 f1
    rw [e] at q1
    exact q1
theorem scDeeds : FnScope ["thing"] ["thing"] (defScope sDeeds) := ⟨rfl, rfl, rfl, by decide +kernel, rfl, by decide +kernel, by decide +kernel⟩
theorem ok_deeds {k : Nat} {t6 : Nat} (F : Fun K "are_deeds" "are_deeds" sDeeds f fd) (T : Cal P w K mg base k "is_tuple" pTup (spTupT K)) (W : Cal P w K mg base k "is_deed" ["thing"] spDeed) (U : Cal P w K mg base k "are_unlike" ["words"] (spUnl K))
    (m6 : mg "MOST_DEEDS" = some (.int 6 t6)) (mall : mg "all" = none) : FnOk P w K mg base CX0 (k + 1) f fd ["thing"] spDeeds := by
  obtain ⟨g, gd, GT, bT, kT, mT⟩ := T.ex
  obtain ⟨g2, gd2, GW, bW, kW, mW⟩ := W.ex
  obtain ⟨g3, gd3, GU, bU, kU, mU⟩ := U.ex
  refine F.ok scDeeds (fun vs H Q E h => ?_) (fun cdv A outer s H vs Q E hr h => ?_)
  · obtain ⟨a, gs, ds, rfl, _⟩ := h
    rfl
  obtain ⟨a, gs, ds, rfl, ha, hA, ⟨o1, o2, o3⟩, q⟩ := h
  have nd1 : (["deed"] : List Str).Nodup := by decide +kernel
  refine ⟨_, pss_cons (ps_if (PW.pt (pw_or (pt_not (pt_val (pe_call GT hr rfl mT kT bT .nil pass0 (pa_cons (pv 0) (pa_cons pe_int (pa_cons (pe_glob (v := .int 6) rfl m6 ⟨_, rfl⟩) pa_nil))))))
        (pw_or1 (pt_not (pt_val (pe_callB (call_all rfl) rfl mall (by decide +kernel) (pa_cons (pe_comp (N' := ["deed"]) (src := [none]) rfl ⟨rfl, by decide +kernel, by decide +kernel, rfl, rfl, rfl⟩
          (pi_tup (pv 0)) (g := gName 0) (fun _ _ _ _ => pg_name (i := 0) nd1 rfl (Or.inl rfl) (Or.inr rfl)) (fun _ _ _ _ => pts_nil)
          (te := tCall spDeed [] E0 (tCons (tVar 0) tNil)) (fun _ _ _ _ => pe_call GW hr rfl mW kW bW .nil pass0 (pa_cons (pv 0) pa_nil))) pa_nil)))))))
      (pss_one (ps_ret pe_bl)) pss_nil)
    (pss_one (ps_ret (pe_call GU hr rfl mU kU bU .nil pass0 (pa_cons (pe_comp (N' := ["deed"]) (src := [none]) rfl ⟨rfl, by decide +kernel, by decide +kernel, rfl, rfl, rfl⟩
          (pi_tup (pv 0)) (g := gName 0) (fun _ _ _ _ => pg_name (i := 0) nd1 rfl (Or.inl rfl) (Or.inr rfl)) (fun _ _ _ _ => pts_nil)
          (te := tOp (rIxT K) (tVar 0) (tC (.int 0))) (fun _ _ _ _ => eT (pv 0) pe_int)) pa_nil)))), ?_⟩
  first | dsimp only [cxOf, Cx.nox] | skip
  have hlen := hA.len
  refine ⟨_, rfl, .yes a _ 0 6 rfl ha ⟨_, rfl, ?_⟩⟩
  rw [List.length_map, hlen]
  have c0 : decide ((0 : Int) ≤ ((ds.length : Nat) : Int)) = true := decide_eq_true (Int.natCast_nonneg _)
  rw [c0, Bool.true_and]
  refine ite2 (fun c => ?_) (fun c => ?_)
  · have e : deedsB ds = false := by unfold deedsB; rw [nb c, Bool.false_and]
    have := q H Kp.refl
    rw [e] at this
    exact this
  · have c1 := nb' c
    refine ⟨_, rfl, a, rfl, ⟨_, SqT.of ha⟩, fun D hD => ?_⟩
    refine comp_bl (xs := gs.map V.ref) (bs := ds.map deedB) (c := []) (SqT.of ha) (by rw [List.length_map, List.length_map, hlen]) (by rw [List.length_map, hlen]; omega) hD ?_ ?_
    · intro i x b Hx R hx hb f r
      obtain ⟨y, hy, rfl⟩ := mbr hx
      obtain ⟨d, hd, hDt⟩ := hA.get hy
      cases mb2 hb hd
      exact ⟨_, rfl, y, d, rfl, hDt.keep f, o1 d (List.mem_of_getElem? hd), r⟩
    · intro Hx f hDx
      refine ⟨D, _, rfl, SqL.of hDx, _, rfl, ?_⟩
      have e : deedsB ds = (ds.map deedB).all id := by unfold deedsB; rw [c1, Bool.true_and]
      refine ite2 (fun d => ?_) (fun d => ?_)
      · have := q Hx f
        rw [e, nb d] at this
        exact this
      · have hax := f _ _ ha
        refine ⟨_, rfl, a, rfl, ⟨_, SqT.of hax⟩, fun D2 hD2 => ?_⟩
        refine comp_v (xs := gs.map V.ref) (vs := (ds.map (·.1)).map V.str) (c := []) (SqT.of hax) (by rw [List.length_map, List.length_map, List.length_map, hlen]) (by rw [List.length_map, hlen]; omega) hD2 ?_ ?_
        · intro i x v Hy R hx hv fy r
          obtain ⟨y, hy, rfl⟩ := mbr hx
          obtain ⟨d, hd, hDt⟩ := hA.get hy
          rw [List.getElem?_map, List.getElem?_map, hd] at hv
          cases hv
          obtain ⟨pt, rt, t1, t2, t3⟩ := hDt
          exact ⟨_, rfl, y, _, 0, _, rfl, rfl, SqT.of (fy _ _ (f _ _ t1)), rfl, r Hy Kp.refl⟩
        · intro Hy fy hDy
          refine ⟨D2, ds.map (·.1), rfl, .inr (SqL.of hDy), o2, by rw [List.length_map]; omega, fun H' f' => ?_⟩
          have := q H' ((f.trans fy).trans f')
          rw [e, nb' d] at this
          exact this
end
end Gn
end
section
set_option Elab.async false
set_option linter.all false
set_option maxRecDepth 100000
namespace Gn
open PySem L2
section
variable {P : Program} {w : World} {K : PySem.W.Frag} {mg : Str → Option Value} {base : Heap} {f : Addr} {fd : FuncData}
abbrev pKind : List Str := ["thing", "ahead"]
theorem scKind : FnScope ["thing", "ahead", "name", "elder", "deeds"] pKind (defScope sKind) := ⟨rfl, rfl, rfl, by decide +kernel, rfl, by decide +kernel, by decide +kernel⟩
theorem ok_kind {k : Nat} (F : Fun K "is_kind" "is_kind" sKind f fd) (T : Cal P w K mg base k "is_tuple" pTup (spTupT K)) (W : Cal P w K mg base k "is_word" ["thing"] spWord) (U : Cal P w K mg base k "are_deeds" ["thing"] spDeeds) : FnOk P w K mg base CX0 (k + 1) f fd pKind spKind := by
  obtain ⟨g, gd, GT, bT, kT, mT⟩ := T.ex
  obtain ⟨g2, gd2, GW, bW, kW, mW⟩ := W.ex
  obtain ⟨g3, gd3, GU, bU, kU, mU⟩ := U.ex
  refine F.ok scKind (fun vs H Q E h => ?_) (fun cdv A outer s H vs Q E hr h => ?_)
  · obtain ⟨t, l, k, ah, rfl, _⟩ := h
    rfl
  obtain ⟨t, l, kd, ah, rfl, ⟨dt, gs, h1, h2, h3⟩, ⟨o1, o2⟩, hl, q⟩ := h
  refine ⟨_, pss_cons (ps_if (pt_not (pt_val (pe_call GT hr rfl mT kT bT .nil pass0 (pa_cons (pv 0) (pa_cons pe_int (pa_cons pe_int pa_nil)))))) (pss_one (ps_ret pe_bl)) pss_nil)
    (pss_cons (ps_asg (pv 0) (pg_tup (n := 3) rfl (pgs_cons (pg_name (i := 2) scKind.nd rfl (Or.inl rfl)) (pgs_cons (pg_name (i := 3) scKind.nd rfl (Or.inl rfl)) (pgs_cons (pg_name (i := 4) scKind.nd rfl (Or.inl rfl)) pgs_nil)))))
    (pss_cons (ps_if (PW.pt (pw_or (pt_not (pt_val (pe_call GW hr rfl mW kW bW .nil pass0 (pa_cons (pv 2) pa_nil)))) (pw_or1 (pt_cmpR op_in_seq (pv 2) (pv 1) rfl)))) (pss_one (ps_ret pe_bl)) pss_nil)
    (pss_cons (ps_if (PW.pt (pw_and (pt_cmp (pc_notN (pv 3))) (pw_and1 (PW.pt (pw_or (pt_not (pt_val (pe_call GW hr rfl mW kW bW .nil pass0 (pa_cons (pv 3) pa_nil)))) (pw_or1 (pt_cmpR op_notIn_seq (pv 3) (pv 1) rfl))))))) (pss_one (ps_ret pe_bl)) pss_nil)
    (pss_one (ps_ret (pe_call GU hr rfl mU kU bU .nil pass0 (pa_cons (pv 4) pa_nil))))))), ?_⟩
  first | dsimp only [cxOf, Cx.nox] | skip
  refine ⟨_, rfl, .yes t _ 3 3 rfl h1 ⟨_, rfl, ?_⟩⟩
  refine ⟨_, rfl, t, _, rfl, SqT.of h1, rfl, _, _, rfl, _, _, rfl, _, _, rfl, rfl, ?_⟩
  refine ⟨_, rfl, kd.1, rfl, o1, fun H1 f1 => ⟨_, rfl, ?_⟩⟩
  refine ite2 (fun c => ?_) (fun c => ?_)
  · have e : kindB kd ah = false := by unfold kindB; rw [nb c, Bool.false_and, Bool.false_and]
    have := q H1 f1
    rw [e] at this
    exact this
  · refine ⟨_, rfl, _, rfl, l, _, rfl, .inl (SqL.of (f1 _ _ hl)), rfl, flat_strs _, _, rfl, ?_⟩
    show if inV (.str kd.1) (ah.map V.str) = true then _ else _
    rw [inV_strs]
    refine ite2 (fun c2 => ?_) (fun c2 => ?_)
    · have e : kindB kd ah = false := by unfold kindB; rw [c2, Bool.not_true, Bool.and_false, Bool.false_and]
      have := q H1 f1
      rw [e] at this
      exact this
    · have e : kindB kd ah = deedsB kd.2 := by unfold kindB; rw [nb' c, notT c2]; rfl
      refine ⟨_, rfl, _, rfl, ?_⟩
      refine ⟨_, rfl, dt, gs, kd.2, rfl, f1 _ _ h2, h3.imp fun _ _ g => g.keep f1, o2, fun H2 f2 => ?_⟩
      have := q H2 (f1.trans f2)
      rw [e] at this
      exact this
inductive KsI (H : Hp) (a l : Addr) (ks : List Kd) (i : Nat) (σ : St) (Hx : Hp) : Prop
  | mk (x : Option V) (hσ : σ = [some (.ref a), some (.ref l), x]) (f : Kp H Hx) (hl : Hx l = some (.lst (((ks.take i).map (·.1)).map V.str))) (hg : goB ks [] = goB (ks.drop i) ((ks.take i).map (·.1))) : KsI H a l ks i σ Hx
theorem scKinds : FnScope ["thing", "ahead", "kind"] ["thing"] (defScope sKinds) := ⟨rfl, rfl, rfl, by decide +kernel, rfl, by decide +kernel, by decide +kernel⟩
theorem ok_kinds {k : Nat} {t12 : Nat} (F : Fun K "are_kinds" "are_kinds" sKinds f fd) (T : Cal P w K mg base k "is_tuple" pTup (spTupT K)) (U : Cal P w K mg base k "is_kind" pKind spKind) (m12 : mg "MOST_KINDS" = some (.int 12 t12)) : FnOk P w K mg base CX0 (k + 1) f fd ["thing"] (spKinds K) := by
  obtain ⟨g, gd, GT, bT, kT, mT⟩ := T.ex
  obtain ⟨g3, gd3, GU, bU, kU, mU⟩ := U.ex
  refine F.ok scKinds (fun vs H Q E h => ?_) (fun cdv A outer s H vs Q E hr h => ?_)
  · rcases h with ⟨v, t, rfl, _⟩ | ⟨a, ts, ks, rfl, _⟩ <;> rfl
  refine ⟨_, pss_cons (ps_if (pt_not (pt_val (pe_call GT hr rfl mT kT bT .nil pass0 (pa_cons (pv 0) (pa_cons pe_int (pa_cons (pe_glob (v := .int 12) rfl m12 ⟨_, rfl⟩) pa_nil)))))) (pss_one (ps_ret pe_bl)) pss_nil)
    (pss_cons (ps_set (i := 1) scKinds.nd rfl (Or.inl rfl) (pe_lst pa_nil))
    (pss_cons (ps_for PassesOwn.never rfl (pi_tup (pv 0)) (pg_name (i := 2) scKinds.nd rfl (Or.inl rfl))
      (pss_cons (ps_if (pt_not (pt_val (pe_call GU hr rfl mU kU bU .nil pass0 (pa_cons (pv 2) (pa_cons (pv 1) pa_nil))))) (pss_one (ps_ret pe_bl)) pss_nil)
      (pss_one (ps_expr (pe_bm PySem.F.plainAttrs_list PySem.F.slot_list_append PySem.F.type_list_append mt_append (pv 1) (pa_cons (eT (pv 2) pe_int) pa_nil))))))
    (pss_one (ps_ret pe_bl)))), ?_⟩
  first | dsimp only [cxOf, Cx.nox] | skip
  rcases h with ⟨v, t, rfl, h2, h3, q⟩ | ⟨a, ts, ks, rfl, ha, hA, hk, hn, q⟩
  · exact ⟨_, rfl, .no v t 1 12 rfl h2 h3 ⟨_, rfl, q⟩⟩
  refine ⟨_, rfl, .yes a _ 1 12 rfl ha ⟨_, rfl, ?_⟩⟩
  have hlen := hA.len
  rw [List.length_map, hlen]
  refine ite2 (fun c => ?_) (fun c => ?_)
  · have e : kindsB ks = false := by unfold kindsB; rw [nb c, Bool.false_and]
    have := q H Kp.refl
    rw [e] at this
    exact this
  have e : kindsB ks = goB ks [] := by unfold kindsB; rw [nb' c, Bool.true_and]
  refine ⟨Nat.zero_le _, fun l hl => ?_⟩
  refine ⟨_, rfl, a, rfl, ⟨_, SqT.of ((Kp.new hl) _ _ ha)⟩, ?_⟩
  refine for_tup (xs := ts.map V.ref) (KsI H a l ks) ⟨_, rfl, Kp.new hl, upd_same, rfl⟩ ?_ ?_ ?_
  · rintro i σ Hx hi ⟨_, _, f, _⟩
    exact SqT.of (f _ _ ha)
  · rintro i x σ Hx hx ⟨y, rfl, f, hlx, hg⟩
    obtain ⟨t, ht, rfl⟩ := mbr hx
    obtain ⟨kd, hkd, hK⟩ := hA.get ht
    have hi : i < ks.length := (List.getElem?_eq_some_iff.mp hkd).1
    have ed : ks.drop i = kd :: ks.drop (i + 1) := by
      rw [List.drop_eq_getElem_cons hi]
      rw [List.getElem?_eq_getElem hi] at hkd
      cases hkd; rfl
    have et : (ks.take (i + 1)).map (·.1) = (ks.take i).map (·.1) ++ [kd.1] := by rw [List.take_add_one, hkd, List.map_append]; rfl
    rw [ed] at hg
    have hg2 : goB ks [] = (kindB kd ((ks.take i).map (·.1)) && goB (ks.drop (i + 1)) ((ks.take (i + 1)).map (·.1))) := by rw [hg, et]; rfl
    refine ⟨_, rfl, _, rfl, t, l, kd, _, rfl, hK.keep f, hk kd (List.mem_of_getElem? hkd), hlx, fun H1 f1 => ⟨_, rfl, ?_⟩⟩
    refine ite2 (fun c => ?_) (fun c => ?_)
    · have := q H1 (f.trans f1)
      rw [e, hg2, nb c, Bool.false_and] at this
      exact this
    · have hl1 := f1 _ _ hlx
      obtain ⟨dt, gs, t1, _⟩ := hK
      refine ⟨_, rfl, .inl ⟨rfl, _, SqL.of hl1⟩, _, rfl, t, _, 0, _, rfl, rfl, SqT.of (f1 _ _ (f _ _ t1)), rfl, l, _, _, rfl, rfl, hl1, small1000 (by rw [List.length_map, List.length_map, List.length_take]; omega), ?_⟩
      refine ⟨_, rfl, (f.trans f1).put hl, ?_, ?_⟩
      · rw [upd_same, et, List.map_append]; rfl
      · rw [hg2, nb' c, Bool.true_and]
  · rintro σ Hx ⟨y, rfl, f, hlx, hg⟩
    have := q Hx f
    rw [List.length_map, hlen, List.drop_length] at hg
    rw [e, hg] at this
    exact this
end
end Gn
end
section
set_option Elab.async false
set_option linter.all false
set_option maxRecDepth 100000
namespace L2
open PySem PySem.Spec PyProof.Rows
section
variable {X : Cx}
def rNeL (K : PySem.W.Frag) : R2 := fun x y H Q => ∃ (a b : Addr) (ss : List Str), x = .ref a ∧ y = .ref b ∧ SqL K H a (ss.map V.str) ∧ SqL K H b (ss.map V.str) ∧ Q (.bl false) H
theorem op_neL (hu : X.A.units < cLine) : OpR X (compareOp .NotEq) (rNeL X.K) := by
  intro pins s σ H x y v u Q I rx ry h
  obtain ⟨a, b, ss, rfl, rfl, h1, h2, q⟩ := h
  cases rx
  cases ry
  obtain ⟨its, r, p, hz⟩ := I.list h1
  obtain ⟨its2, r2, p2, _⟩ := I.list h2
  have l1 := r.length
  have l2 := r2.length
  rw [List.length_map] at l1 l2
  have h := SeqAt.RcNeAt.lists (A := X.A) (s := s) (e := fun j => decide (ss[j]? = ss[j]?)) p.isList p2.isList (by rw [List.size_toArray, List.size_toArray, ← l1, ← l2]) hu (fun j h1 h2 => eqAt_parts I r r2 j h1 h2)
  have e : (!(List.range its.toArray.size).all fun j => decide (ss[j]? = ss[j]?)) = false := by simp
  rw [e] at h
  exact h _ _ _ _ ⟨.bl false, H, I, rfl, q⟩
end
end L2
namespace Gn
open PySem L2
abbrev sLate : Stmt := top 29
abbrev sAgree : Stmt := top 31
def lateB (ks : List Kd) (l : List Str) : Bool := decide ((l.length : Int) ≤ 6) && (l.map wordB).all id && (l.map fun x => decide (x ∈ ks.map (·.1))).all id
def LOk (l : List Str) : Prop := l.Nodup ∧ l.Pairwise leS ∧ l.length ≤ 50 ∧ ∀ x ∈ l, x.length ≤ 1000
inductive SpLate (vs : List V) (H : Hp) (Q : VK) : Prop
  | mk (a b : Addr) (ts : List Addr) (ks : List Kd) (l : List Str) (h1 : vs = [.ref a, .ref b]) (h2 : H a = some (.tup (ts.map V.ref))) (h3 : A2 (KindAt H) ts ks) (h4 : ks.length ≤ 100) (h5 : H b = some (.tup (l.map V.str))) (h6 : LOk l) (h7 : ∀ H', Kp H H' → Q (.bl (lateB ks l)) H') : SpLate vs H Q
def spLate : Sp := fun vs H Q _ => SpLate vs H Q
inductive SpAgree (vs : List V) (H : Hp) (Q : VK) : Prop
  | mk (p a : Addr) (x y : V) (ts : List Addr) (ks : List Kd) (h1 : vs = [.ref p]) (h2 : H p = some (.tup [.ref a, x, y])) (h3 : H a = some (.tup (ts.map V.ref))) (h4 : A2 (KindAt H) ts ks) (h5 : ∀ H', Kp H H' → Q (.bl true) H') : SpAgree vs H Q
def spAgree : Sp := fun vs H Q _ => SpAgree vs H Q
theorem perm_of {l l' : List Str} (n : l.Nodup) (n' : l'.Nodup) (h : ∀ x, x ∈ l ↔ x ∈ l') : l.Perm l' := by
  rw [List.perm_iff_count]
  intro a
  rw [n.count, n'.count]
  simp only [h a]
theorem inV_non : ∀ l : List Str, inV .non (l.map V.str) = false := by
  intro l
  unfold inV
  induction l with
  | nil => rfl
  | cons x r ih =>
    rw [List.map_cons, List.any_cons, ih]
    rfl
section
variable {P : Program} {w : World} {K : PySem.W.Frag} {mg : Str → Option Value} {base : Heap} {f : Addr} {fd : FuncData}
abbrev pLate : List Str := ["kinds", "thing"]
theorem scLate : FnScope ["kinds", "thing", "names"] pLate (defScope sLate) := ⟨rfl, rfl, rfl, by decide +kernel, rfl, by decide +kernel, by decide +kernel⟩
set_option maxHeartbeats 1000000 in
theorem ok_late {k : Nat} {t6 : Nat} (F : Fun K "are_late" "are_late" sLate f fd) (T : Cal P w K mg base k "is_tuple" pTup (spTupT K)) (W : Cal P w K mg base k "is_word" ["thing"] spWord)
    (m6 : mg "MOST_LATE" = some (.int 6 t6)) (mall : mg "all" = none) (mli : mg "list" = none) (mso : mg "sorted" = none) (mse : mg "set" = none) : FnOk P w K mg base CX0 (k + 1) f fd pLate spLate := by
  obtain ⟨g, gd, GT, bT, kT, mT⟩ := T.ex
  obtain ⟨g2, gd2, GW, bW, kW, mW⟩ := W.ex
  refine F.ok scLate (fun vs H Q E h => ?_) (fun cdv A outer s H vs Q E hr h => ?_)
  · obtain ⟨a, b, ts, ks, l, rfl, _⟩ := h
    rfl
  obtain ⟨a, b, ts, ks, l, rfl, ha, hA, hn, hb, ⟨l1, l2, l3, l4⟩, q⟩ := h
  have hu3 : (A.deeper (PyProof.Rows.envOfC "are_late" (defScope sLate) s.heap.objs.size f cdv)).units < cLine := by have := hr.units; omega
  have nd1 : (["name"] : List Str).Nodup := by decide +kernel
  have nd2 : (["kind"] : List Str).Nodup := by decide +kernel
  have nd3 : (["name", "names"] : List Str).Nodup := by decide +kernel
  have nd4 : (["name", "elder", "deeds", "thing"] : List Str).Nodup := by decide +kernel
  refine ⟨_, pss_cons (ps_if (PW.pt (pw_or (pt_not (pt_val (pe_call GT hr rfl mT kT bT .nil pass0 (pa_cons (pv 1) (pa_cons pe_int (pa_cons (pe_glob (v := .int 6) rfl m6 ⟨_, rfl⟩) pa_nil))))))
        (pw_or1 (pt_not (pt_val (pe_callB (call_all rfl) rfl mall (by decide +kernel) (pa_cons (pe_comp (N' := ["name"]) (src := [none]) rfl ⟨rfl, by decide +kernel, by decide +kernel, rfl, rfl, rfl⟩
          (pi_tup (pv 1)) (g := gName 0) (fun _ _ _ _ => pg_name (i := 0) nd1 rfl (Or.inl rfl) (Or.inr rfl)) (fun _ _ _ _ => pts_nil)
          (te := tCall spWord [] E0 (tCons (tVar 0) tNil)) (fun _ _ _ _ => pe_call GW hr rfl mW kW bW .nil pass0 (pa_cons (pv 0) pa_nil))) pa_nil)))))))
      (pss_one (ps_ret pe_bl)) pss_nil)
    (pss_cons (ps_set (i := 2) scLate.nd rfl (Or.inr rfl) (pe_comp (N' := ["kind"]) (src := [none]) rfl ⟨rfl, by decide +kernel, by decide +kernel, rfl, rfl, rfl⟩
          (pi_tup (pv 0)) (g := gName 0) (fun _ _ _ _ => pg_name (i := 0) nd2 rfl (Or.inl rfl) (Or.inr rfl)) (fun _ _ _ _ => pts_nil)
          (te := tOp (rIxT K) (tVar 0) (tC (.int 0))) (fun _ _ _ _ => eT (pv 0) pe_int)))
    (pss_cons (ps_if (PW.pt (pw_or (pt_not (pt_val (pe_callB (call_all rfl) rfl mall (by decide +kernel) (pa_cons (pe_comp (N' := ["name", "names"]) (src := [none, some 2]) rfl ⟨rfl, by decide +kernel, by decide +kernel, rfl, rfl, rfl⟩
          (pi_tup (pv 1)) (g := gName 0) (fun _ _ _ _ => pg_name (i := 0) nd3 rfl (Or.inl rfl) (Or.inr rfl)) (fun _ _ _ _ => pts_nil)
          (te := tOp (rIn K false) (tVar 0) (tVar 1)) (fun _ _ _ _ => pe_cmpR op_in_seq (pv 0) (pv 1) rfl)) pa_nil))))
        (pw_or1 (pt_cmpR (op_neL hu3) (pe_callTy call_list_of rfl mli (by decide +kernel) (pa_cons (pv 1) pa_nil)) (pe_callB (call_sortedS rfl) rfl mso (by decide +kernel) (pa_cons (pe_callTy (call_setS rfl) rfl mse (by decide +kernel) (pa_cons (pv 1) pa_nil)) pa_nil)) (nomark _)))))
      (pss_one (ps_ret pe_bl)) pss_nil)
    (pss_one (ps_ret (pe_callB (call_all rfl) rfl mall (by decide +kernel) (pa_cons (pe_comp (N' := ["name", "elder", "deeds", "thing"]) (src := [none, none, none, some 1]) rfl ⟨rfl, by decide +kernel, by decide +kernel, rfl, rfl, rfl⟩
          (pi_tup (pv 0)) (g := gTup K 3 (gCons (gName 0) (gCons (gName 1) (gCons (gName 2) gNil)))) (fun _ _ _ _ => pg_tup (n := 3) rfl (pgs_cons (pg_name (i := 0) nd4 rfl (Or.inl rfl) (Or.inr rfl)) (pgs_cons (pg_name (i := 1) nd4 rfl (Or.inl rfl) (Or.inr rfl)) (pgs_cons (pg_name (i := 2) nd4 rfl (Or.inl rfl) (Or.inr rfl)) pgs_nil))))
          (tt := tTest (tOp (rIn K false) (tVar 1) (tVar 3))) (fun _ _ _ _ => pts_one (pt_cmpR op_in_seq (pv 1) (pv 3) rfl))
          (te := tOp (rIn K false) (tVar 0) (tVar 3)) (fun _ _ _ _ => pe_cmpR op_in_seq (pv 0) (pv 3) rfl)) pa_nil)))))), ?_⟩
  first | dsimp only [cxOf, Cx.nox] | skip
  have hlen := hA.len
  refine ⟨_, rfl, .yes b _ 0 6 rfl hb ⟨_, rfl, ?_⟩⟩
  rw [List.length_map]
  have c0 : decide ((0 : Int) ≤ ((l.length : Nat) : Int)) = true := decide_eq_true (Int.natCast_nonneg _)
  rw [c0, Bool.true_and]
  refine ite2 (fun c => ?_) (fun c => ?_)
  · have e : lateB ks l = false := by unfold lateB; rw [nb c, Bool.false_and, Bool.false_and]
    have := q H Kp.refl
    rw [e] at this
    exact this
  have c1 := nb' c
  refine ⟨_, rfl, b, rfl, ⟨_, SqT.of hb⟩, fun D hD => ?_⟩
  refine comp_bl (xs := l.map V.str) (bs := l.map wordB) (c := []) (SqT.of hb) (by rw [List.length_map, List.length_map]) (by rw [List.length_map]; omega) hD ?_ ?_
  · intro i x b Hx R hx hb f r
    obtain ⟨y, hy, rfl⟩ := mb hx
    cases mb2 hb hy
    exact ⟨_, rfl, y, rfl, l4 y (List.mem_of_getElem? hy), r⟩
  intro Hx f hDx
  refine ⟨D, _, rfl, SqL.of hDx, _, rfl, ?_⟩
  refine ite2 (fun d => ?_) (fun d => ?_)
  · have e : lateB ks l = false := by unfold lateB; rw [nb d, Bool.and_false, Bool.false_and]
    have := q Hx f
    rw [e] at this
    exact this
  have d1 := nb' d
  have e : lateB ks l = (l.map fun x => decide (x ∈ ks.map (·.1))).all id := by unfold lateB; rw [c1, d1, Bool.true_and, Bool.true_and]
  rw [e] at q
  refine ⟨_, rfl, a, rfl, ⟨_, SqT.of (f _ _ ha)⟩, fun D2 hD2 => ?_⟩
  refine comp_v (xs := ts.map V.ref) (vs := (ks.map (·.1)).map V.str) (c := []) (SqT.of (f _ _ ha)) (by rw [List.length_map, List.length_map, List.length_map, hlen]) (by rw [List.length_map, hlen]; omega) hD2 ?_ ?_
  · intro i x v Hy R hx hv fy r
    obtain ⟨y, hy, rfl⟩ := mbr hx
    obtain ⟨d, hd, hK⟩ := hA.get hy
    rw [List.getElem?_map, List.getElem?_map, hd] at hv
    cases hv
    obtain ⟨dt, gs, t1, _⟩ := hK
    exact ⟨_, rfl, y, _, 0, _, rfl, rfl, SqT.of (fy _ _ (f _ _ t1)), rfl, r Hy Kp.refl⟩
  intro Hy fy hDy
  have fHy := f.trans fy
  refine ⟨_, rfl, b, rfl, ⟨_, SqT.of (fHy _ _ hb)⟩, fun D3 hD3 => ?_⟩
  refine comp_bl (xs := l.map V.str) (bs := l.map fun x => decide (x ∈ ks.map (·.1))) (c := [some (.ref D2)]) (SqT.of (fHy _ _ hb)) (by rw [List.length_map, List.length_map]) (by rw [List.length_map]; omega) hD3 ?_ ?_
  · intro i x b Hz R hx hb fz r
    obtain ⟨y, hy, rfl⟩ := mb hx
    cases mb2 hb hy
    refine ⟨_, rfl, _, rfl, D2, _, rfl, .inl (SqL.of (fz _ _ hDy)), rfl, flat_strs _, ?_⟩
    show R (.bl (inV (.str y) ((ks.map (·.1)).map V.str))) Hz
    rw [inV_strs]
    exact r Hz Kp.refl
  intro Hz fz hDz
  have fHz := fHy.trans fz
  refine ⟨D3, _, rfl, SqL.of hDz, _, rfl, ?_⟩
  refine ite2 (fun g => ?_) (fun g => ?_)
  · have := q Hz fHz
    rw [nb g] at this
    exact this
  have q2 : ∀ H', Kp H H' → Q (.bl true) H' := fun H' f' => by
    have := q H' f'
    rwa [nb' g] at this
  refine ⟨_, rfl, b, _, rfl, .inr (SqT.of (fHz _ _ hb)), fun la hla => ?_⟩
  have f1 := fHz.trans (Kp.new (o := .lst (l.map V.str)) hla)
  refine ⟨_, rfl, b, l, rfl, .inl (SqT.of (f1 _ _ hb)), by omega, fun lb ss hlb n m => ?_⟩
  have f2 := f1.trans (Kp.new (o := setO w lb ss) hlb)
  have pe : ss.Perm l := perm_of n l1 m
  refine ⟨lb, ss, rfl, upd_same, by rw [pe.length_eq]; omega, fun lc ss' hlc p3 hs3 => ?_⟩
  have es : ss' = l := sorted_eq l2 hs3 (p3.trans pe)
  subst es
  have f3 := f2.trans (Kp.new (o := .lst (ss'.map V.str)) hlc)
  refine ⟨la, lc, ss', rfl, rfl, SqL.of ((Kp.new hlc) _ _ ((Kp.new hlb) _ _ upd_same)), SqL.of upd_same, _, rfl, ?_⟩
  refine ⟨_, rfl, a, rfl, ⟨_, SqT.of (f3 _ _ ha)⟩, fun D4 hD4 => ?_⟩
  refine compW_tup (xs := ts.map V.ref) (fun i σ Hu => (∃ x y z, σ = [x, y, z, some (.ref b)]) ∧ Kp H Hu ∧ Hu D4 = some (.lst [])) ⟨⟨_, _, _, rfl⟩, f3.trans (Kp.new hD4), upd_same⟩ ?_ ?_ ?_
  · rintro i σ Hu hi ⟨_, fu, _⟩
    exact SqT.of (fu _ _ ha)
  · rintro i x σ Hu hx ⟨⟨x0, y0, z0, rfl⟩, fu, hDu⟩
    obtain ⟨y, hy, rfl⟩ := mbr hx
    obtain ⟨d, hd, hK⟩ := hA.get hy
    obtain ⟨dt, gs, t1, _⟩ := hK
    refine ⟨y, _, rfl, SqT.of (fu _ _ t1), rfl, _, _, rfl, _, _, rfl, _, _, rfl, rfl, ?_⟩
    refine ⟨_, rfl, _, rfl, b, _, rfl, .inr (SqT.of (fu _ _ hb)), rfl, flat_strs _, _, rfl, ?_⟩
    show if inV .non (ss'.map V.str) = true then _ else _
    rw [inV_non, if_neg Bool.false_ne_true]
    exact ⟨⟨_, _, _, rfl⟩, fu, hDu⟩
  · rintro σ Hu ⟨_, fu, hDu⟩
    exact ⟨D4, [], rfl, SqL.of hDu, q2 Hu fu⟩
theorem scAgree : FnScope ["program", "name", "elder", "deeds", "deed", "many"] ["program"] (defScope sAgree) := ⟨rfl, rfl, rfl, by decide +kernel, rfl, by decide +kernel, by decide +kernel⟩
theorem ok_agree {k : Nat} (F : Fun K "deeds_agree" "deeds_agree" sAgree f fd) : FnOk P w K mg base CX0 (k + 1) f fd ["program"] spAgree := by
  refine F.ok scAgree (fun vs H Q E h => ?_) (fun cdv A outer s H vs Q E hr h => ?_)
  · obtain ⟨p, a, x, y, ts, ks, rfl, _⟩ := h
    rfl
  obtain ⟨p, a, x, y, ts, ks, rfl, hp, ha, hA, q⟩ := h
  refine ⟨_, pss_cons (ps_for PassesOwn.never rfl (pi_tup (eT (pv 0) pe_int)) (pg_tup (n := 3) rfl (pgs_cons (pg_name (i := 1) scAgree.nd rfl (Or.inl rfl)) (pgs_cons (pg_name (i := 2) scAgree.nd rfl (Or.inl rfl)) (pgs_cons (pg_name (i := 3) scAgree.nd rfl (Or.inl rfl)) pgs_nil))))
      (pss_one (ps_if (pt_cmp (pc_notN (pv 2))) pss_never pss_nil)))
    (pss_one (ps_ret pe_bl)), ?_⟩
  first | dsimp only [cxOf, Cx.nox] | skip
  refine ⟨_, rfl, p, _, 0, _, rfl, rfl, SqT.of hp, rfl, a, rfl, ⟨_, SqT.of ha⟩, ?_⟩
  refine for_tup (xs := ts.map V.ref) (fun i σ Hx => (∃ x1 x2 x3 x4 x5, σ = [some (.ref p), x1, x2, x3, x4, x5]) ∧ Kp H Hx) ⟨⟨_, _, _, _, _, rfl⟩, Kp.refl⟩ ?_ ?_ ?_
  · rintro i σ Hx hi ⟨_, f⟩
    exact SqT.of (f _ _ ha)
  · rintro i x σ Hx hx ⟨⟨x1, x2, x3, x4, x5, rfl⟩, f⟩
    obtain ⟨y, hy, rfl⟩ := mbr hx
    obtain ⟨d, hd, hK⟩ := hA.get hy
    obtain ⟨dt, gs, t1, _⟩ := hK
    refine ⟨y, _, rfl, SqT.of (f _ _ t1), rfl, _, _, rfl, _, _, rfl, _, _, rfl, rfl, ?_⟩
    refine ⟨_, rfl, _, rfl, ?_⟩
    exact ⟨⟨_, _, _, _, _, rfl⟩, f⟩
  · rintro σ Hx ⟨_, f⟩
    exact q Hx f
end
end Gn
end
section
set_option Elab.async false
set_option linter.all false
set_option maxRecDepth 100000
namespace Gn
open PySem L2
abbrev sWithin : Stmt := top 8
abbrev sFits : Stmt := top 32
abbrev sRow : Stmt := top 33
def withinV (w : Str) (rest : List V) : List V := if w = "either" ∨ w = "again" then rest else []
inductive SpWithin (vs : List V) (H : Hp) (Q : VK) : Prop
  | mk (a : Addr) (w : Str) (rest : List V) (h1 : vs = [.ref a]) (h2 : H a = some (.tup (.str w :: rest))) (h3 : ∀ p, H p = none → Q (.ref p) (upd H p (.tup (withinV w rest)))) : SpWithin vs H Q
def spWithin : Sp := fun vs H Q _ => SpWithin vs H Q
section
variable {P : Program} {w : World} {K : PySem.W.Frag} {mg : Str → Option Value} {base : Heap} {f : Addr} {fd : FuncData}
theorem scWithin : FnScope ["row"] ["row"] (defScope sWithin) := ⟨rfl, rfl, rfl, by decide +kernel, rfl, by decide +kernel, by decide +kernel⟩
theorem ok_within {k : Nat} {ah : Addr} (F : Fun K "rows_within" "rows_within" sWithin f fd) (mH : mg "HOLDERS" = some (.ref ah)) (hH : ∀ H, SqT K H ah [.str "either", .str "again"]) : FnOk P w K mg base CX0 (k + 1) f fd ["row"] spWithin := by
  refine F.ok scWithin (fun vs H Q E h => ?_) (fun cdv A outer s H vs Q E hr h => ?_)
  · obtain ⟨a, w, rest, rfl, _⟩ := h
    rfl
  obtain ⟨a, w, rest, rfl, ha, q⟩ := h
  refine ⟨_, pss_cons (ps_if (pt_cmpR op_in_seq (eT (pv 0) pe_int) (pe_glob (v := .ref ah) rfl mH rfl) rfl)
      (pss_one (ps_ret (pe_slice sl_tup (pv 0) (po_some pe_int) po_none))) pss_nil)
    (pss_one (ps_ret (pe_tup pa_nil))), ?_⟩
  first | dsimp only [cxOf, Cx.nox] | skip
  have ei : inV (.str w) [.str "either", .str "again"] = decide (w = "either" ∨ w = "again") := by
    have := inV_strs w ["either", "again"]
    simpa using this
  refine ⟨_, rfl, a, _, _, .str w, rfl, rfl, SqT.of ha, at_hd _ _, ah, _, rfl, .inr (hH _), rfl, rfl, _, rfl, ?_⟩
  show if inV (.str w) [.str "either", .str "again"] = true then _ else _
  rw [ei]
  refine ite2 (fun c => ?_) (fun c => ?_)
  · have c' := of_decide_eq_true c
    refine ⟨_, rfl, _, rfl, a, _, rfl, SqT.of ha, ?_, fun p hp => ?_⟩
    · intro z
      have := z.1
      unfold HT.sIx at this
      simp at this
    · have := q p hp
      unfold withinV at this
      rw [if_pos c'] at this
      rw [cut1]
      exact this
  · have c' : ¬ (w = "either" ∨ w = "again") := fun z => c (decide_eq_true z)
    refine ⟨Nat.zero_le _, fun p hp => ?_⟩
    have := q p hp
    unfold withinV at this
    rw [if_neg c'] at this
    exact this
end
theorem sNe {x y : Str} (h : x ≠ y) : decide (V.str x = V.str y) = false := decide_eq_false fun z => h (V.str.inj z)
theorem sEq {x : Str} : decide (V.str x = V.str x) = true := decide_eq_true rfl
inductive SpFits (vs : List V) (H : Hp) (Q : VK) : Prop
  | rows (pr bd : V) (a : Addr) (xs : List V) (h1 : vs = [pr, bd, .str "rows", .ref a]) (h2 : H a = some (.tup xs)) (h3 : xs.length ≤ 20) (h4 : Q (.bl true) H) : SpFits vs H Q
  | word (pr bd : V) (x : Str) (h1 : vs = [pr, bd, .str "word", .str x]) (h2 : x.length ≤ 1000) (h3 : wordB x = true) (h4 : ∀ H', Kp H H' → Q (.bl true) H') : SpFits vs H Q
def spFits : Sp := fun vs H Q _ => SpFits vs H Q
section
variable {P : Program} {w : World} {K : PySem.W.Frag} {mg : Str → Option Value} {base : Heap} {f : Addr} {fd : FuncData}
abbrev pFits : List Str := ["program", "body", "part", "thing"]
theorem scFits : FnScope pFits pFits (defScope sFits) := ⟨rfl, rfl, rfl, by decide +kernel, rfl, by decide +kernel, by decide +kernel⟩
theorem ok_fits {k : Nat} {t20 : Nat} (F : Fun K "part_fits" "part_fits" sFits f fd) (T : Cal P w K mg base k "is_tuple" pTup (spTupT K)) (W : Cal P w K mg base k "is_word" ["thing"] spWord)
    (m20 : mg "MOST_IN_ROWS" = some (.int 20 t20)) : FnOk P w K mg base CX0 (k + 1) f fd pFits spFits := by
  obtain ⟨g, gd, GT, bT, kT, mT⟩ := T.ex
  obtain ⟨g2, gd2, GW, bW, kW, mW⟩ := W.ex
  refine F.ok scFits (fun vs H Q E h => ?_) (fun cdv A outer s H vs Q E hr h => ?_)
  · rcases h with ⟨pr, bd, a, xs, rfl, _⟩ | ⟨pr, bd, x, rfl, _⟩ <;> rfl
  refine ⟨_, pss_cons (ps_if (pt_cmpR op_eq (pv 2) pe_str (nomark _)) (pss_one (ps_ret (pe_call GT hr rfl mT kT bT .nil pass0 (pa_cons (pv 3) (pa_cons pe_int (pa_cons (pe_glob (v := .int 20) rfl m20 ⟨_, rfl⟩) pa_nil)))))) pss_nil)
    (pss_cons (ps_if (pt_cmpR op_eq (pv 2) pe_str (nomark _)) pss_never pss_nil)
    (pss_cons (ps_if (pt_not (pt_val (pe_call GW hr rfl mW kW bW .nil pass0 (pa_cons (pv 3) pa_nil)))) (pss_one (ps_ret pe_bl)) pss_nil)
    (pss_cons (ps_if (pt_cmpR op_eq (pv 2) pe_str (nomark _)) pss_never pss_nil)
    (pss_cons (ps_if (pt_cmpR op_eq (pv 2) pe_str (nomark _)) pss_never pss_nil)
    (pss_cons (ps_if (pt_cmpR op_eq (pv 2) pe_str (nomark _)) pss_never pss_nil)
    (pss_cons (ps_if (pt_cmpR op_eq (pv 2) pe_str (nomark _)) pss_never pss_nil)
    (pss_one (ps_ret pe_bl)))))))), ?_⟩
  first | dsimp only [cxOf, Cx.nox] | skip
  rcases h with ⟨pr, bd, a, xs, rfl, ha, hl, q⟩ | ⟨pr, bd, x, rfl, hx, hw, q⟩
  · refine ⟨_, rfl, rfl, _, rfl, ?_⟩
    rw [sEq]
    refine ⟨_, rfl, .yes a _ 0 20 rfl ha ?_⟩
    have e : (decide ((0 : Int) ≤ (xs.length : Int)) && decide ((xs.length : Int) ≤ 20)) = true := by
      rw [decide_eq_true (by omega : (0 : Int) ≤ (xs.length : Int)), decide_eq_true (by omega : (xs.length : Int) ≤ 20)]; rfl
    rw [e]
    exact q
  · refine ⟨_, rfl, rfl, _, rfl, ?_⟩
    rw [sNe (by decide +kernel)]
    refine ⟨_, rfl, rfl, _, rfl, ?_⟩
    rw [sNe (by decide +kernel)]
    refine ⟨_, rfl, x, rfl, hx, fun H' f' => ⟨_, rfl, ?_⟩⟩
    rw [hw]
    refine ⟨_, rfl, rfl, _, rfl, ?_⟩
    rw [sNe (by decide +kernel)]
    refine ⟨_, rfl, rfl, _, rfl, ?_⟩
    rw [sNe (by decide +kernel)]
    refine ⟨_, rfl, rfl, _, rfl, ?_⟩
    rw [sNe (by decide +kernel)]
    refine ⟨_, rfl, rfl, _, rfl, ?_⟩
    rw [sNe (by decide +kernel)]
    exact q H' f'
end
end Gn
end
section
set_option Elab.async false
set_option linter.all false
set_option maxRecDepth 100000
namespace Gn
open PySem L2
inductive SpRow (vs : List V) (H : Hp) (Q : VK) : Prop
  | say (pr bd : V) (r : Addr) (h1 : vs = [pr, bd, .ref r]) (h2 : SayAt H r) (h3 : ∀ H', Kp H H' → Q (.bl true) H') : SpRow vs H Q
  | again (pr bd : V) (r p : Addr) (xs : List V) (h1 : vs = [pr, bd, .ref r]) (h2 : H r = some (.tup [.str "again", .ref p])) (h4 : H p = some (.tup xs)) (h5 : xs.length ≤ 20) (h3 : ∀ H', Kp H H' → Q (.bl true) H') : SpRow vs H Q
def spRow : Sp := fun vs H Q _ => SpRow vs H Q
inductive ZpI (H : Hp) (D : Addr) (pr bd : V) (i : Nat) (σ : St) (Hx : Hp) : Prop
  | mk (x y : Option V) (hσ : σ = [x, y, some pr, some bd]) (fr : Kp H Hx) (hD : Hx D = some (.lst ((List.replicate i true).map V.bl))) : ZpI H D pr bd i σ Hx
theorem pe_never {X : Cx} {e : Expr} : PE X e (fun _ _ _ => False) := fun _ _ _ _ _ _ h => h.elim
theorem nosl0 {v : Expr} {i : Expr} {p : Pos} : NoSl (.Subscript v i p) := fun _ _ => rfl
section
variable {P : Program} {w : World} {K : PySem.W.Frag} {mg : Str → Option Value} {base : Heap} {f : Addr} {fd : FuncData}
abbrev pRow : List Str := ["program", "body", "thing"]
theorem scRow : FnScope ["program", "body", "thing", "parts"] pRow (defScope sRow) := ⟨rfl, rfl, rfl, by decide +kernel, rfl, by decide +kernel, by decide +kernel⟩
set_option maxHeartbeats 1000000 in
theorem ok_row {k : Nat} {aP a1 a2 : Addr} {kvs : List (Key × V)} (F : Fun K "is_row" "is_row" sRow f fd) (T : Cal P w K mg base k "part_fits" pFits spFits)
    (mP : mg "PARTS" = some (.ref aP)) (hP : KDict K P w aP kvs) (v1 : valV kvs (.inr "say") = some (.ref a1)) (v2 : valV kvs (.inr "again") = some (.ref a2)) (t1 : ∀ H, SqT K H a1 [.str "word"]) (t2 : ∀ H, SqT K H a2 [.str "rows"])
    (mi : mg "isinstance" = none) (mt : mg "tuple" = none) (ms : mg "str" = none) (ml : mg "len" = none) (mall : mg "all" = none) (mz : mg "zip" = none) : FnOk P w K mg base CX0 (k + 1) f fd pRow spRow := by
  obtain ⟨g, gd, GT, bT, kT, mT⟩ := T.ex
  refine F.ok scRow (fun vs H Q E h => ?_) (fun cdv A outer s H vs Q E hr h => ?_)
  · rcases h with ⟨pr, bd, r, rfl, _⟩ | ⟨pr, bd, r, p, xs, rfl, _⟩ <;> rfl
  have nd2 : (["part", "found", "program", "body"] : List Str).Nodup := by decide +kernel
  refine ⟨_, pss_cons (ps_if (PW.pt (pw_or (pt_not (pt_val (pe_callB call_isinst rfl mi (by decide +kernel) (pa_cons (pv 2) (pa_cons (pe_bltn (v := .ty "tuple") rfl mt (by decide +kernel) rfl) pa_nil)))))
        (pw_or1 (pt_cmpR op_eq (pe_callB call_len_seq rfl ml PySem.boot_len (pa_cons (pv 2) pa_nil)) pe_int (nomark _))))) pss_never pss_nil)
    (pss_cons (ps_if (PW.pt (pw_or (pt_not (pt_val (pe_callB call_isinst rfl mi (by decide +kernel) (pa_cons (eT (pv 2) pe_int) (pa_cons (pe_bltn (v := .ty "str") rfl ms (by decide +kernel) rfl) pa_nil)))))
        (pw_or1 (pt_cmp (pc_knotin (eT (pv 2) pe_int) (pe_glob (v := .ref aP) rfl mP rfl)) rfl)))) pss_never pss_nil)
    (pss_cons (ps_set (i := 3) scRow.nd rfl (Or.inl rfl) (pe_kget (pe_glob (v := .ref aP) rfl mP rfl) (eT (pv 2) pe_int) nosl0))
    (pss_cons (ps_if (pt_cmpR op_ne (pe_callB call_len_seq rfl ml PySem.boot_len (pa_cons (pv 2) pa_nil)) (pe_op op_add pe_int (pe_callB call_len_seq rfl ml PySem.boot_len (pa_cons (pv 3) pa_nil))) (nomark _)) pss_never pss_nil)
    (pss_cons (ps_if (pt_not (pt_val (pe_callB (call_all rfl) rfl mall (by decide +kernel) (pa_cons (pe_comp (N' := ["part", "found", "program", "body"]) (src := [none, none, some 0, some 1]) rfl ⟨rfl, by decide +kernel, by decide +kernel, rfl, rfl, rfl⟩
          (pi_zip (p := true) rfl mz (pa_cons (pv 3) (pa_cons (pe_slice sl_tup (pv 2) (po_some pe_int) po_none) pa_nil)))
          (g := gTup K 2 (gCons (gName 0) (gCons (gName 1) gNil))) (fun _ _ _ _ => pg_tup (n := 2) rfl (pgs_cons (pg_name (i := 0) nd2 rfl (Or.inl rfl) (Or.inr rfl)) (pgs_cons (pg_name (i := 1) nd2 rfl (Or.inl rfl) (Or.inr rfl)) pgs_nil)))
          (fun _ _ _ _ => pts_nil) (te := tCall spFits [] E0 (tCons (tVar 2) (tCons (tVar 3) (tCons (tVar 0) (tCons (tVar 1) tNil))))) (fun _ _ _ _ => pe_call GT hr rfl mT kT bT .nil pass0 (pa_cons (pv 2) (pa_cons (pv 3) (pa_cons (pv 0) (pa_cons (pv 1) pa_nil)))))) pa_nil)))) pss_never pss_nil)
    (pss_one (ps_ret (pe_or (pe_cmpR op_ne (eT (pv 2) pe_int) pe_str (nomark _)) pe_never))))))), ?_⟩
  first | dsimp only [cxOf, Cx.nox] | skip
  obtain ⟨pr, bd, r, wd, x, ap, part, rfl, hR, hv, tp, hfit, hcall, q⟩ : ∃ (pr bd : V) (r : Addr) (wd : Str) (x : V) (ap : Addr) (part : Str), vs = [pr, bd, .ref r] ∧ H r = some (.tup [.str wd, x]) ∧ valV kvs (.inr wd) = some (.ref ap) ∧ (∀ H, SqT K H ap [.str part]) ∧
      (∀ Hx (R : VK), Kp H Hx → (∀ H4, Kp Hx H4 → R (.bl true) H4) → SpFits [pr, bd, .str part, x] Hx R) ∧ wd ≠ "call" ∧ ∀ H', Kp H H' → Q (.bl true) H' := by
    rcases h with ⟨pr, bd, r, rfl, h2, h3⟩ | ⟨pr, bd, r, p, xs, rfl, h2, h4, h5, h3⟩
    · exact ⟨pr, bd, r, "say", _, a1, "word", rfl, h2, v1, t1, fun Hx R f r => .word pr bd "zz" rfl (by decide +kernel) (by decide +kernel) r, by decide +kernel, h3⟩
    · exact ⟨pr, bd, r, "again", _, a2, "rows", rfl, h2, v2, t2, fun Hx R f r => .rows pr bd p xs rfl (f _ _ h4) h5 (r Hx Kp.refl), by decide +kernel, h3⟩
  refine ⟨_, rfl, _, _, _, true, rfl, .tup hR, (show PySem.W.kitOne K (.type "tuple") (.type "tuple") = some true from rfl), _, rfl, ?_⟩
  refine ⟨_, rfl, r, _, rfl, .inr (SqT.of hR), rfl, _, rfl, ?_⟩
  refine ⟨_, rfl, r, _, 0, _, rfl, rfl, SqT.of hR, rfl, _, _, _, true, rfl, .str wd, kit_ss, _, rfl, ?_⟩
  refine ⟨_, rfl, r, _, 0, _, rfl, rfl, SqT.of hR, rfl, aP, kvs, wd, rfl, hP, rfl, _, rfl, ?_⟩
  rw [hv]
  refine ⟨_, rfl, r, _, 0, _, rfl, rfl, SqT.of hR, rfl, aP, kvs, wd, _, rfl, hP, rfl, hv, ?_⟩
  refine ⟨_, rfl, r, _, rfl, .inr (SqT.of hR), _, rfl, ap, _, rfl, .inr (tp H), _, _, rfl, rfl, rfl, _, rfl, ?_⟩
  refine ⟨_, rfl, _, rfl, _, rfl, r, _, rfl, SqT.of hR, ?_, fun p hp => ?_⟩
  · intro z
    have := z.1
    unfold HT.sIx at this
    simp at this
  rw [cut1]
  refine ⟨ap, p, _, _, rfl, tp _, SqT.of upd_same, fun D hD => ?_⟩
  have fp : Kp H (upd H p (.tup [x])) := Kp.new hp
  have hDH : H D = none := fp.none hD
  refine ⟨fun i m σ Hx => m = 1 - i ∧ i ≤ 1 ∧ ZpI (upd H p (.tup [x])) D pr bd i σ Hx, ⟨_, rfl, Nat.zero_le _, _, _, rfl, Kp.new hD, upd_same⟩, ?_⟩
  rintro i m σ Hx ⟨rfl, hi, ⟨x0, y0, rfl, fr, hDx⟩⟩
  have hax : SqT K Hx ap [.str part] := tp Hx
  have hbx : SqT K Hx p [x] := SqT.of (fr _ _ upd_same)
  by_cases hlt : i < 1
  · have hi0 : i = 0 := by omega
    subst hi0
    refine .inr ⟨⟨_, _, _, _, hax, hbx, rfl, rfl⟩, ZpI (upd H p (.tup [x])) D pr bd 1, fun σ' H' h => ⟨_, by omega, rfl, hlt, h⟩, fun v H' yl => ?_⟩
    obtain ⟨T, x', y', hT, rfl, rfl, y1, y2⟩ := yl
    have e1 := y1 _ hax
    have e2 := y2 _ hbx
    cases e1
    cases e2
    have hDT : D ≠ T := ne_of_none hDx hT
    refine ⟨T, _, rfl, SqT.of upd_same, rfl, _, _, rfl, _, _, rfl, rfl, ?_⟩
    refine ⟨_, rfl, _, rfl, _, rfl, _, rfl, hfit _ _ ((fp.trans fr).trans (Kp.new hT)) fun Hz fz => ⟨_, fz _ _ (by rw [upd_ne hDT]; exact hDx), ?_, ⟨_, _, rfl, ((fr.trans (Kp.new hT)).trans fz).put hD, ?_⟩⟩⟩
    · exact small1000 (by decide)
    · rw [upd_same]; rfl
  · have hi1 : i = 1 := by omega
    subst hi1
    refine .inl ⟨⟨_, _, hax, hbx, .inl (Nat.le_refl 1)⟩, D, List.replicate 1 true, rfl, SqL.of hDx, _, rfl, ?_⟩
    refine ⟨_, rfl, r, _, 0, _, rfl, rfl, SqT.of (fr _ _ (fp _ _ hR)), rfl, rfl, _, rfl, ?_⟩
    rw [sNe hcall]
    exact q Hx (fp.trans fr)
end
end Gn
end
section
set_option Elab.async false
set_option linter.all false
set_option maxRecDepth 100000
namespace Gn
open PySem L2
abbrev sRoom : Stmt := top 34
def rb : Nat → Nat → Nat → Nat → Int
  | 0, n, room, _ => if 20 < n then -1 else if room < n then -1 else ((room - n : Nat) : Int)
  | d + 1, n, room, nested => if 20 < n + 1 then -1 else if room < n + 1 then -1 else if nested = 4 then -1 else rb d 0 (room - n - 1) (nested + 1)
theorem rb_le : ∀ (d n room nested : Nat), rb d n room nested = -1 ∨ ∃ m : Nat, m ≤ room ∧ rb d n room nested = (m : Int)
  | 0, n, room, _ => by
    unfold rb
    split
    · exact .inl rfl
    · split
      · exact .inl rfl
      · exact .inr ⟨room - n, by omega, rfl⟩
  | d + 1, n, room, nested => by
    unfold rb
    split
    · exact .inl rfl
    · split
      · exact .inl rfl
      · split
        · exact .inl rfl
        · rcases rb_le d 0 (room - n - 1) (nested + 1) with h | ⟨m, h1, h2⟩
          · exact .inl h
          · exact .inr ⟨m, by omega, h2⟩
def lenD : Nat → Nat → Nat
  | 0, n => n
  | _ + 1, n => n + 1
theorem RowsAt.rows {H : Hp} : ∀ {d n : Nat} {p : Addr}, RowsAt H d n p → ∃ xs : List Addr, H p = some (.tup (xs.map V.ref)) ∧ xs.length = lenD d n ∧ (∀ i, i < n → ∃ r, xs[i]? = some r ∧ SayAt H r) ∧ (∀ e, d = e + 1 → ∃ q p', xs[n]? = some q ∧ H q = some (.tup [.str "again", .ref p']) ∧ RowsAt H e 0 p')
  | 0, n, p, ⟨rs, h1, h2, h3⟩ => ⟨rs, h1, h2, fun i hi => ⟨rs[i], List.getElem?_eq_getElem (by omega), h3 _ (List.getElem_mem _)⟩, fun e h => by omega⟩
  | d + 1, n, p, ⟨rs, q, p', h1, h2, h3, h4, h5⟩ => ⟨rs ++ [q], h1, by rw [List.length_append, h2]; rfl, fun i hi => ⟨rs[i]'(by omega), by rw [List.getElem?_append_left (by omega)]; exact List.getElem?_eq_getElem (by omega), h3 _ (List.getElem_mem _)⟩, fun e h => by
      cases h
      exact ⟨q, p', by rw [← h2]; simp, h4, h5⟩⟩
inductive SpRoom (fu : Nat) (vs : List V) (H : Hp) (Q : VK) : Prop
  | mk (pr bd : V) (p : Addr) (d n room nested : Nat) (h1 : vs = [pr, bd, .ref p, .int (room : Int), .int (nested : Int)]) (h2 : RowsAt H d n p) (h3 : n ≤ 100) (h4 : room ≤ 100) (h5 : nested + fu = 4) (h6 : ∀ H', Kp H H' → Q (.int (rb d n room nested)) H') : SpRoom fu vs H Q
def spRoom (fu : Nat) : Sp := fun vs H Q _ => SpRoom fu vs H Q
def spRoomP : Nat → Sp
  | 0 => fun _ _ _ _ => False
  | fu + 1 => spRoom fu
inductive RmI (H : Hp) (pr bd : V) (p : Addr) (d n room nested : Nat) (i : Nat) (σ : St) (Hx : Hp) : Prop
  | says (x y : Option V) (hσ : σ = [some pr, some bd, some (.ref p), some (.int ((room - i : Nat) : Int)), some (.int (nested : Int)), x, y]) (f : Kp H Hx) (h1 : i ≤ n) (h2 : i ≤ room) : RmI H pr bd p d n room nested i σ Hx
  | done (x y : Option V) (m : Nat) (hσ : σ = [some pr, some bd, some (.ref p), some (.int (m : Int)), some (.int (nested : Int)), x, y]) (f : Kp H Hx) (h1 : i = n + 1) (h2 : rb d n room nested = (m : Int)) : RmI H pr bd p d n room nested i σ Hx
theorem iE (n m : Int) : decide (V.int n = V.int m) = decide (n = m) := by
  by_cases h : n = m
  · subst h; simp
  · rw [decide_eq_false h, decide_eq_false fun z => h (V.int.inj z)]
section
variable {P : Program} {w : World} {K : PySem.W.Frag} {mg : Str → Option Value} {base : Heap} {f : Addr} {fd : FuncData}
abbrev pRoom : List Str := ["program", "body", "rows", "room", "nested"]
theorem scRoom : FnScope ["program", "body", "rows", "room", "nested", "row", "inner"] pRoom (defScope sRoom) := ⟨rfl, rfl, rfl, by decide +kernel, rfl, by decide +kernel, by decide +kernel⟩
theorem ok_neverR {k : Nat} (F : Fun K "room_behind" "room_behind" sRoom f fd) : FnOk P w K mg base CX0 (k + 1) f fd pRoom (spRoomP 0) := by
  refine F.ok scRoom (fun vs H Q E h => ?_) (fun cdv A outer s H vs Q E hr h => ?_)
  · exact h.elim
  · exact h.elim
set_option maxHeartbeats 2000000 in
theorem ok_room {k fu : Nat} {t20 t4 tN : Nat} (F : Fun K "room_behind" "room_behind" sRoom f fd) (T : Cal P w K mg base k "is_tuple" pTup (spTupT K)) (R : Cal P w K mg base k "is_row" pRow spRow) (WI : Cal P w K mg base k "rows_within" ["row"] spWithin) (RB : Cal P w K mg base k "room_behind" pRoom (spRoomP fu))
    (m20 : mg "MOST_IN_ROWS" = some (.int 20 t20)) (m4 : mg "MOST_NESTED" = some (.int 4 t4)) (mN : mg "NO_ROOM" = some (.int (-1) tN)) : FnOk P w K mg base CX0 (k + 1) f fd pRoom (spRoom fu) := by
  obtain ⟨g, gd, GT, bT, kT, mT⟩ := T.ex
  obtain ⟨g2, gd2, GR, bR, kR, mR⟩ := R.ex
  obtain ⟨g3, gd3, GI, bI, kI, mI⟩ := WI.ex
  obtain ⟨g4, gd4, GB, bB, kB, mB⟩ := RB.ex
  refine F.ok scRoom (fun vs H Q E h => ?_) (fun cdv A outer s H vs Q E hr h => ?_)
  · obtain ⟨pr, bd, p, d, n, room, nested, rfl, _⟩ := h
    rfl
  obtain ⟨pr, bd, p, d, n, room, nested, rfl, hR, hn, hroom, hfu, q⟩ := h
  refine ⟨_, pss_cons (ps_if (pt_not (pt_val (pe_call GT hr rfl mT kT bT .nil pass0 (pa_cons (pv 2) (pa_cons pe_int (pa_cons (pe_glob (v := .int 20) rfl m20 ⟨_, rfl⟩) pa_nil)))))) (pss_one (ps_ret (pe_glob (v := .int (-1)) rfl mN ⟨_, rfl⟩))) pss_nil)
    (pss_cons (ps_for PassesOwn.never rfl (pi_tup (pv 2)) (pg_name (i := 5) scRoom.nd rfl (Or.inl rfl))
      (pss_cons (ps_if (PW.pt (pw_or (pt_cmpR op_eq (pv 3) pe_int (nomark _)) (pw_or1 (pt_not (pt_val (pe_call GR hr rfl mR kR bR .nil pass0 (pa_cons (pv 0) (pa_cons (pv 1) (pa_cons (pv 5) pa_nil))))))))) (pss_one (ps_ret (pe_glob (v := .int (-1)) rfl mN ⟨_, rfl⟩))) pss_nil)
      (pss_cons (ps_aug (i := 3) scRoom.nd rfl (Or.inl rfl) pe_int ip_sub)
      (pss_one (ps_for PassesOwn.never rfl (pi_tup (pe_call GI hr rfl mI kI bI .nil pass0 (pa_cons (pv 5) pa_nil))) (pg_name (i := 6) scRoom.nd rfl (Or.inl rfl))
        (pss_cons (ps_if (pt_cmpR op_eq (pv 4) (pe_glob (v := .int 4) rfl m4 ⟨_, rfl⟩) (nomark _)) (pss_one (ps_ret (pe_glob (v := .int (-1)) rfl mN ⟨_, rfl⟩))) pss_nil)
        (pss_cons (ps_set (i := 3) scRoom.nd rfl (Or.inl rfl) (pe_call GB hr rfl mB kB bB .nil pass0 (pa_cons (pv 0) (pa_cons (pv 1) (pa_cons (pv 6) (pa_cons (pv 3) (pa_cons (pe_op op_add (pv 4) pe_int) pa_nil)))))))
        (pss_one (ps_if (pt_cmpR op_eq (pv 3) (pe_glob (v := .int (-1)) rfl mN ⟨_, rfl⟩) (nomark _)) (pss_one (ps_ret (pe_glob (v := .int (-1)) rfl mN ⟨_, rfl⟩))) pss_nil)))))))))
    (pss_one (ps_ret (pv 3)))), ?_⟩
  first | dsimp only [cxOf, Cx.nox] | skip
  obtain ⟨xs, hp, hl, hs, hg⟩ := hR.rows
  refine ⟨_, rfl, .yes p _ 0 20 rfl hp ⟨_, rfl, ?_⟩⟩
  rw [List.length_map, hl]
  have c0 : decide ((0 : Int) ≤ ((lenD d n : Nat) : Int)) = true := decide_eq_true (Int.natCast_nonneg _)
  rw [c0, Bool.true_and]
  refine ite2 (fun c => ?_) (fun c => ?_)
  · have c1 := of_decide_eq_false (nb c)
    have e : rb d n room nested = -1 := by
      cases d with
      | zero => unfold rb; have hL : lenD 0 n = n := rfl; rw [if_pos (by omega)]
      | succ d => unfold rb; have hL : lenD (d + 1) n = n + 1 := rfl; rw [if_pos (by omega)]
    have := q H Kp.refl
    rw [e] at this
    exact this
  have c1 := of_decide_eq_true (nb' c)
  refine ⟨_, rfl, p, rfl, ⟨_, SqT.of hp⟩, ?_⟩
  refine for_tup (xs := xs.map V.ref) (RmI H pr bd p d n room nested) (.says _ _ rfl Kp.refl (Nat.zero_le _) (Nat.zero_le _)) ?_ ?_ ?_
  · rintro i σ Hx hi h
    have f : Kp H Hx := by rcases h with ⟨_, _, _, f, _⟩ | ⟨_, _, _, _, f, _⟩ <;> exact f
    exact SqT.of (f _ _ hp)
  · rintro i x σ Hx hx h
    obtain ⟨r, hr', rfl⟩ := mbr hx
    have hi : i < lenD d n := by rw [← hl]; exact (List.getElem?_eq_some_iff.mp hr').1
    rcases h with ⟨x0, y0, rfl, f, i1, i2⟩ | ⟨x0, y0, m, rfl, f, i1, i2⟩
    · refine ⟨_, rfl, rfl, _, rfl, ?_⟩
      rw [iE]
      refine ite2 (fun c2 => ?_) (fun c2 => ?_)
      · have c3 : ((room - i : Nat) : Int) = 0 := of_decide_eq_true c2
        have e : rb d n room nested = -1 := by
          cases d with
          | zero => have hL : lenD 0 n = n := rfl; unfold rb; rw [if_neg (by omega), if_pos (by omega)]
          | succ d => have hL : lenD (d + 1) n = n + 1 := rfl; unfold rb; rw [if_neg (by omega), if_pos (by omega)]
        have := q Hx f
        rw [e] at this
        exact this
      · have c3 : ¬ ((room - i : Nat) : Int) = 0 := fun z => c2 (decide_eq_true z)
        have eR : ((room - i : Nat) : Int) - 1 = ((room - (i + 1) : Nat) : Int) := by omega
        by_cases hin : i < n
        · obtain ⟨r', e', hsay⟩ := hs i hin
          rw [hr'] at e'
          cases e'
          refine ⟨_, rfl, _, rfl, _, rfl, .say pr bd r rfl (f _ _ hsay) fun H1 f1 => ⟨_, rfl, ?_⟩⟩
          refine ⟨_, rfl, _, _, rfl, rfl, ?_⟩
          refine ⟨_, rfl, r, "say", _, rfl, f1 _ _ (f _ _ hsay), fun pw hpw => ?_⟩
          have ew : withinV "say" [.str "zz"] = [] := by unfold withinV; rw [if_neg (by decide +kernel)]
          rw [ew]
          refine ⟨pw, rfl, ⟨_, SqT.of upd_same⟩, ?_⟩
          refine for_tup (xs := []) (fun _ σ Hy => RmI H pr bd p d n room nested (i + 1) σ Hy ∧ Hy pw = some (.tup [])) ⟨?_, upd_same⟩ ?_ ?_ ?_
          · exact .says _ _ (by rw [← eR]; rfl) ((f.trans f1).trans (Kp.new hpw)) hin (by omega)
          · rintro j σ Hy hj ⟨_, z⟩
            exact SqT.of z
          · rintro j x σ Hy hj
            simp at hj
          · rintro σ Hy ⟨z, _⟩
            exact z
        · have ein : i = n := by omega
          subst ein
          cases d with
          | zero => exfalso; have hL : lenD 0 i = i := rfl; omega
          | succ d =>
            have hL : lenD (d + 1) i = i + 1 := rfl
            obtain ⟨qa, p', e', hq, hR'⟩ := hg d rfl
            rw [hr'] at e'
            cases e'
            obtain ⟨xs', hp', hl', _⟩ := hR'.rows
            have hl2 : xs'.length ≤ 1 := by
              rw [hl']
              cases d with
              | zero => exact Nat.zero_le _
              | succ d => exact Nat.le_refl _
            refine ⟨_, rfl, _, rfl, _, rfl, .again pr bd r p' _ rfl (f _ _ hq) (f _ _ hp') (by rw [List.length_map]; omega) fun H1 f1 => ⟨_, rfl, ?_⟩⟩
            refine ⟨_, rfl, _, _, rfl, rfl, ?_⟩
            refine ⟨_, rfl, r, "again", _, rfl, f1 _ _ (f _ _ hq), fun pw hpw => ?_⟩
            have ew : withinV "again" [.ref p'] = [.ref p'] := by unfold withinV; rw [if_pos (by decide +kernel)]
            rw [ew]
            have f2 := (f.trans f1).trans (Kp.new (o := .tup [.ref p']) hpw)
            refine ⟨pw, rfl, ⟨_, SqT.of upd_same⟩, ?_⟩
            refine for_tup (xs := [.ref p']) (fun j σ Hy => (j = 0 ∧ (∃ y, σ = [some pr, some bd, some (.ref p), some (.int ((room - (i + 1) : Nat) : Int)), some (.int (nested : Int)), some (.ref r), y]) ∧ Kp H Hy ∧ Hy pw = some (.tup [.ref p'])) ∨ (j = 1 ∧ RmI H pr bd p (d + 1) i room nested (i + 1) σ Hy ∧ Hy pw = some (.tup [.ref p']))) (.inl ⟨rfl, ⟨_, by rw [← eR]; rfl⟩, f2, upd_same⟩) ?_ ?_ ?_
            · rintro j σ Hy hj (⟨_, _, _, z⟩ | ⟨_, _, z⟩) <;> exact SqT.of z
            · rintro j x σ Hy hj (⟨rfl, ⟨y, rfl⟩, fy, z⟩ | ⟨rfl, _⟩)
              · cases hj
                refine ⟨_, rfl, rfl, _, rfl, ?_⟩
                rw [iE]
                have e1 : ∀ h : ¬ nested = 4, rb (d + 1) i room nested = rb d 0 (room - (i + 1)) (nested + 1) := fun h => by
                  have e0 : rb (d + 1) i room nested = if 20 < i + 1 then -1 else if room < i + 1 then -1 else if nested = 4 then -1 else rb d 0 (room - i - 1) (nested + 1) := rfl
                  rw [e0, if_neg (by omega), if_neg (by omega), if_neg h, Nat.sub_sub]
                refine ite2 (fun c4 => ?_) (fun c4 => ?_)
                · have c5 : (nested : Int) = 4 := of_decide_eq_true c4
                  have e : rb (d + 1) i room nested = -1 := by unfold rb; rw [if_neg (by omega), if_neg (by omega), if_pos (by omega)]
                  have := q Hy fy
                  rw [e] at this
                  exact this
                · have c5 : ¬ (nested : Int) = 4 := fun z => c4 (decide_eq_true z)
                  have c6 : ¬ nested = 4 := by omega
                  have e2 := e1 c6
                  cases fu with
                  | zero => omega
                  | succ fu =>
                    refine ⟨_, rfl, _, rfl, _, rfl, _, rfl, _, rfl, _, _, rfl, rfl, (⟨pr, bd, p', d, 0, room - (i + 1), nested + 1, rfl, hR'.keep fy, by omega, by omega, by omega, fun H3 f3 => ?_⟩ : SpRoom fu _ _ _)⟩
                    refine ⟨_, rfl, rfl, _, rfl, ?_⟩
                    rw [iE]
                    have q3 := q H3 (fy.trans f3)
                    refine ite2 (fun c7 => ?_) (fun c7 => ?_)
                    · have c8 : rb d 0 (room - (i + 1)) (nested + 1) = -1 := of_decide_eq_true c7
                      rw [e2, c8] at q3
                      exact q3
                    · have c8 : ¬ rb d 0 (room - (i + 1)) (nested + 1) = -1 := fun z => c7 (decide_eq_true z)
                      rcases rb_le d 0 (room - (i + 1)) (nested + 1) with h | ⟨m, h1, h2⟩
                      · exact absurd h c8
                      · exact .inr ⟨rfl, .done (some (.ref r)) (some (.ref p')) m (by rw [h2]; rfl) (fy.trans f3) rfl (e2.trans h2), f3 _ _ z⟩
              · simp at hj
            · rintro σ Hy (⟨hj, _⟩ | ⟨_, z, _⟩)
              · simp at hj
              · exact z
    · exfalso
      cases d with
      | zero => have hL : lenD 0 n = n := rfl; omega
      | succ d => have hL : lenD (d + 1) n = n + 1 := rfl; omega
  · rintro σ Hx h
    rw [List.length_map, hl] at h
    rcases h with ⟨x0, y0, rfl, f, i1, i2⟩ | ⟨x0, y0, m, rfl, f, i1, i2⟩
    · have e : rb d n room nested = ((room - lenD d n : Nat) : Int) := by
        cases d with
        | zero => have hL : lenD 0 n = n := rfl; unfold rb; rw [if_neg (by omega), if_neg (by omega), hL]
        | succ d => have hL : lenD (d + 1) n = n + 1 := rfl; omega
      have := q Hx f
      rw [e] at this
      exact ⟨_, rfl, this⟩
    · have := q Hx f
      rw [i2] at this
      exact ⟨_, rfl, this⟩
end
end Gn
end
section
set_option Elab.async false
set_option linter.all false
set_option maxRecDepth 100000
namespace Gn
open PySem L2
abbrev sBodies : Stmt := top 7
abbrev sBfit : Stmt := top 35
abbrev sIsP : Stmt := top 36
abbrev Pg := List Kd × List Str × Nat × Nat
inductive ProgAt (H : Hp) (p : Addr) (g : Pg) : Prop
  | mk (kt lt rt : Addr) (ts : List Addr) (h1 : H p = some (.tup [.ref kt, .ref lt, .ref rt])) (h2 : H kt = some (.tup (ts.map V.ref))) (h3 : A2 (KindAt H) ts g.1) (h4 : H lt = some (.tup (g.2.1.map V.str))) (h5 : RowsAt H g.2.2.1 g.2.2.2 rt) : ProgAt H p g
def bodyL (g : Pg) : List (Nat × Nat) := (g.2.2.1, g.2.2.2) :: g.1.flatMap fun k => k.2.map fun d => (0, d.2.2)
def fitB : List (Nat × Nat) → Nat → Bool
  | [], _ => true
  | b :: r, room => !decide (rb b.1 b.2 room 0 = -1) && fitB r (rb b.1 b.2 room 0).toNat
def progB (g : Pg) : Bool := kindsB g.1 && lateB g.1 g.2.1 && fitB (bodyL g) 80
inductive BodyAt (H : Hp) (q : Addr) (b : Nat × Nat) : Prop
  | mk (bd : V) (rt : Addr) (h1 : H q = some (.tup [bd, .ref rt])) (h2 : RowsAt H b.1 b.2 rt) : BodyAt H q b
theorem BodyAt.keep {H H' : Hp} (f : Kp H H') {q : Addr} {b : Nat × Nat} (h : BodyAt H q b) : BodyAt H' q b := by
  obtain ⟨bd, rt, h1, h2⟩ := h
  exact ⟨bd, rt, f _ _ h1, h2.keep f⟩
theorem ProgAt.keep {H H' : Hp} (f : Kp H H') {p : Addr} {g : Pg} (h : ProgAt H p g) : ProgAt H' p g := by
  obtain ⟨kt, lt, rt, ts, h1, h2, h3, h4, h5⟩ := h
  exact ⟨kt, lt, rt, ts, f _ _ h1, f _ _ h2, h3.imp fun _ _ g => g.keep f, f _ _ h4, h5.keep f⟩
def POk (g : Pg) : Prop := (∀ k ∈ g.1, KOk k) ∧ g.1.length ≤ 20 ∧ LOk g.2.1 ∧ ∀ b ∈ bodyL g, b.2 ≤ 100
inductive SpBodies (vs : List V) (H : Hp) (Q : VK) : Prop
  | mk (p : Addr) (g : Pg) (h1 : vs = [.ref p]) (h2 : ProgAt H p g) (h3 : POk g) (h4 : ∀ (b : Addr) (qs : List Addr) (H' : Hp), Kp H H' → H' b = some (.tup (qs.map V.ref)) → A2 (BodyAt H') qs (bodyL g) → Q (.ref b) H') : SpBodies vs H Q
def spBodies : Sp := fun vs H Q _ => SpBodies vs H Q
inductive SpBfit (vs : List V) (H : Hp) (Q : VK) : Prop
  | mk (p : Addr) (g : Pg) (h1 : vs = [.ref p]) (h2 : ProgAt H p g) (h3 : POk g) (h4 : ∀ H', Kp H H' → Q (.bl (fitB (bodyL g) 80)) H') : SpBfit vs H Q
def spBfit : Sp := fun vs H Q _ => SpBfit vs H Q
inductive SpIsP (K : PySem.W.Frag) (vs : List V) (H : Hp) (Q : VK) : Prop
  | no (v : V) (t : Value) (h1 : vs = [v]) (h2 : TyOf K H v t) (h3 : PySem.W.kitOne K t (.type "tuple") = some false) (h4 : Q (.bl false) H) : SpIsP K vs H Q
  | other (p : Addr) (xs : List V) (h1 : vs = [.ref p]) (h2 : H p = some (.tup xs)) (h3 : xs.length ≠ 3) (h4 : Q (.bl false) H) : SpIsP K vs H Q
  | kno (p : Addr) (v x y : V) (t : Value) (h1 : vs = [.ref p]) (h2 : H p = some (.tup [v, x, y])) (h3 : TyOf K H v t) (h4 : PySem.W.kitOne K t (.type "tuple") = some false) (h5 : Q (.bl false) H) : SpIsP K vs H Q
  | mk (p : Addr) (g : Pg) (h1 : vs = [.ref p]) (h2 : ProgAt H p g) (h3 : POk g) (h4 : ∀ H', Kp H H' → Q (.bl (progB g)) H') : SpIsP K vs H Q
def spIsP (K : PySem.W.Frag) : Sp := fun vs H Q _ => SpIsP K vs H Q
def deedsL (k : Kd) : List (Nat × Nat) := k.2.map fun d => (0, d.2.2)
inductive BoI (H1 : Hp) (p fd : Addr) (L : List (Nat × Nat)) (c : Nat) (σ : St) (Hx : Hp) : Prop
  | mk (a b d e g h i : Option V) (qs : List Addr) (hσ : σ = [some (.ref p), some (.ref fd), a, b, d, e, g, h, i]) (fr : Kp H1 Hx) (hf : Hx fd = some (.lst (qs.map V.ref))) (ha : A2 (BodyAt Hx) qs L) (hc : qs.length ≤ c) : BoI H1 p fd L c σ Hx
inductive BoJ (H1 : Hp) (p fd : Addr) (n e : V) (dt : Addr) (L : List (Nat × Nat)) (c : Nat) (σ : St) (Hx : Hp) : Prop
  | mk (a b d f : Option V) (qs : List Addr) (hσ : σ = [some (.ref p), some (.ref fd), some n, some e, some (.ref dt), a, b, d, f]) (fr : Kp H1 Hx) (hf : Hx fd = some (.lst (qs.map V.ref))) (ha : A2 (BodyAt Hx) qs L) (hc : qs.length ≤ c) : BoJ H1 p fd n e dt L c σ Hx
theorem Row_lst {Hx : Hp} {fl : Addr} {ys : List V} {o : HO} (hf : Hx fl = some (.lst ys)) : ∀ {d n : Nat} {p : Addr}, RowsAt Hx d n p → RowsAt (upd Hx fl o) d n p := by
  have t : ∀ b xs, Hx b = some (.tup xs) → upd Hx fl o b = some (.tup xs) := Tup.lst hf
  intro d
  induction d with
  | zero => rintro n p ⟨rs, h1, h2, h3⟩; exact ⟨rs, t _ _ h1, h2, fun r hr => t _ _ (h3 r hr)⟩
  | succ d ih => rintro n p ⟨rs, q, p', h1, h2, h3, h4, h5⟩; exact ⟨rs, q, p', t _ _ h1, h2, fun r hr => t _ _ (h3 r hr), t _ _ h4, ih h5⟩
theorem Body_lst {Hx : Hp} {fl : Addr} {ys : List V} {o : HO} (hf : Hx fl = some (.lst ys)) {q : Addr} {b : Nat × Nat} (h : BodyAt Hx q b) : BodyAt (upd Hx fl o) q b := by
  obtain ⟨bd, rt, h1, h2⟩ := h
  exact ⟨bd, rt, Tup.lst hf _ _ h1, Row_lst hf h2⟩
section
variable {P : Program} {w : World} {K : PySem.W.Frag} {mg : Str → Option Value} {base : Heap} {f : Addr} {fd : FuncData}
theorem scBodies : FnScope ["program", "found", "name", "elder", "deeds", "deed", "params", "rows", "gives"] ["program"] (defScope sBodies) := ⟨rfl, rfl, rfl, by decide +kernel, rfl, by decide +kernel, by decide +kernel⟩
theorem ok_bodies {k : Nat} {am : Addr} (F : Fun K "bodies" "bodies" sBodies f fd) (mM : mg "MAIN" = some (.ref am)) (mtu : mg "tuple" = none) : FnOk P w K mg base CX0 (k + 1) f fd ["program"] spBodies := by
  refine F.ok scBodies (fun vs H Q E h => ?_) (fun cdv A outer s H vs Q E hr h => ?_)
  · obtain ⟨p, g, rfl, _⟩ := h
    rfl
  obtain ⟨p, ⟨ks, late, dd, nn⟩, rfl, ⟨kt, lt, rt, ts, hp, hk, hA, hl, hR⟩, ⟨o1, o2, o3, o4⟩, q⟩ := h
  dsimp only at hA hl hR o1 o2
  have hlen := hA.len
  refine ⟨_, pss_cons (ps_set (i := 1) scBodies.nd rfl (Or.inl rfl) (pe_lst (pa_cons (pe_tup (pa_cons (pe_glob (v := .ref am) rfl mM rfl) (pa_cons (eT (pv 0) pe_int) pa_nil))) pa_nil)))
    (pss_cons (ps_for PassesOwn.never rfl (pi_tup (eT (pv 0) pe_int)) (pg_tup (n := 3) rfl (pgs_cons (pg_name (i := 2) scBodies.nd rfl (Or.inl rfl)) (pgs_cons (pg_name (i := 3) scBodies.nd rfl (Or.inl rfl)) (pgs_cons (pg_name (i := 4) scBodies.nd rfl (Or.inl rfl)) pgs_nil))))
      (pss_one (ps_for PassesOwn.never rfl (pi_tup (pv 4)) (pg_tup (n := 4) rfl (pgs_cons (pg_name (i := 5) scBodies.nd rfl (Or.inl rfl)) (pgs_cons (pg_name (i := 6) scBodies.nd rfl (Or.inl rfl)) (pgs_cons (pg_name (i := 7) scBodies.nd rfl (Or.inl rfl)) (pgs_cons (pg_name (i := 8) scBodies.nd rfl (Or.inl rfl)) pgs_nil)))))
        (pss_one (ps_expr (pe_bm PySem.F.plainAttrs_list PySem.F.slot_list_append PySem.F.type_list_append mt_append (pv 1) (pa_cons (pe_tup (pa_cons (pe_tup (pa_cons (pv 2) (pa_cons (pv 5) pa_nil))) (pa_cons (pv 7) pa_nil))) pa_nil)))))))
    (pss_one (ps_ret (pe_callTy call_tuple_of rfl mtu (by decide +kernel) (pa_cons (pv 1) pa_nil))))), ?_⟩
  first | dsimp only [cxOf, Cx.nox] | skip
  have s2 : 2 ≤ sizeLine := Nat.le_of_lt (small1000 (by decide))
  have s0 : 1 ≤ sizeLine := Nat.le_of_lt (small1000 (by decide))
  refine ⟨_, rfl, p, _, 2, _, rfl, rfl, SqT.of hp, rfl, s2, fun pt hpt => ⟨s0, fun fl hfl => ?_⟩⟩
  have f0 : Kp H (upd (upd H pt (.tup [.ref am, .ref rt])) fl (.lst ([pt].map V.ref))) := (Kp.new hpt).trans (Kp.new hfl)
  have hflH : H fl = none := (Kp.new hpt).none hfl
  refine ⟨_, rfl, p, _, 0, _, rfl, rfl, SqT.of (f0 _ _ hp), rfl, kt, rfl, ⟨_, SqT.of (f0 _ _ hk)⟩, ?_⟩
  refine for_tup (xs := ts.map V.ref) (fun i => BoI H p fl ((dd, nn) :: (ks.take i).flatMap deedsL) (1 + 100 * i)) ⟨_, _, _, _, _, _, _, [pt], rfl, f0, upd_same, .cons ⟨.ref am, rt, (Kp.new hfl) _ _ upd_same, hR.keep f0⟩ .nil, Nat.le_refl _⟩ ?_ ?_ ?_
  · rintro i σ Hx hi ⟨_, _, _, _, _, _, _, _, _, fr, _⟩
    exact SqT.of (fr _ _ hk)
  · rintro i x σ Hx hx ⟨_, _, _, _, _, _, _, qs, rfl, fr, hfx, ha, hc⟩
    obtain ⟨u, hu, rfl⟩ := mbr hx
    obtain ⟨kd, hkd, hK⟩ := hA.get hu
    obtain ⟨dt, gs, d1, d2, d3⟩ := hK
    have hds : kd.2.length ≤ 100 := (o1 kd (List.mem_of_getElem? hkd)).2.2.2
    have hgl := d3.len
    have hi : i < ks.length := (List.getElem?_eq_some_iff.mp hkd).1
    have eL : (ks.take (i + 1)).flatMap deedsL = (ks.take i).flatMap deedsL ++ deedsL kd := by
      rw [List.take_add_one, hkd, List.flatMap_append]
      simp
    rw [eL, ← List.cons_append]
    refine ⟨u, _, rfl, SqT.of (fr _ _ d1), rfl, _, _, rfl, _, _, rfl, _, _, rfl, rfl, ?_⟩
    refine ⟨_, rfl, dt, rfl, ⟨_, SqT.of (fr _ _ d2)⟩, ?_⟩
    refine for_tup (xs := gs.map V.ref) (fun j => BoJ H p fl (.str kd.1) .non dt (((dd, nn) :: (ks.take i).flatMap deedsL) ++ (deedsL kd).take j) (1 + 100 * i + j)) ⟨_, _, _, _, qs, rfl, fr, hfx, by rw [List.take_zero, List.append_nil]; exact ha, hc⟩ ?_ ?_ ?_
    · rintro j σ Hy hj ⟨_, _, _, _, _, _, fy, _⟩
      exact SqT.of (fy _ _ d2)
    · rintro j x σ Hy hx ⟨_, _, _, _, qs, rfl, fy, hfy, ha, hc⟩
      obtain ⟨g, hg, rfl⟩ := mbr hx
      obtain ⟨dz, hz, hD⟩ := d3.get hg
      obtain ⟨pt', rt', g1, g2, g3⟩ := hD
      have hjl : j < kd.2.length := (List.getElem?_eq_some_iff.mp hz).1
      have eD : (deedsL kd).take (j + 1) = (deedsL kd).take j ++ [(0, dz.2.2)] := by
        have : (deedsL kd)[j]? = some (0, dz.2.2) := by unfold deedsL; rw [List.getElem?_map, hz]; rfl
        rw [List.take_add_one, this]; rfl
      rw [eD, ← List.append_assoc]
      refine ⟨g, _, rfl, SqT.of (fy _ _ g1), rfl, _, _, rfl, _, _, rfl, _, _, rfl, _, _, rfl, rfl, ?_⟩
      refine ⟨_, rfl, .inl ⟨rfl, _, SqL.of hfy⟩, _, rfl, _, rfl, s2, fun pa hpa => ⟨_, rfl, s2, fun pb hpb => ?_⟩⟩
      have f2 : Kp Hy (upd (upd Hy pa (.tup [V.str kd.1, V.str dz.1])) pb (.tup [.ref pa, .ref rt'])) := (Kp.new hpa).trans (Kp.new hpb)
      have hf2 := f2 _ _ hfy
      refine ⟨fl, _, _, rfl, rfl, hf2, small6 (by rw [List.length_map]; omega), ?_⟩
      rw [show qs.map V.ref ++ [V.ref pb] = (qs ++ [pb]).map V.ref by rw [List.map_append]; rfl]
      refine ⟨_, _, _, _, qs ++ [pb], rfl, (fy.trans f2).put hflH, upd_same, (ha.imp fun _ _ z => Body_lst hf2 (z.keep f2)).snoc (Body_lst hf2 ⟨.ref pa, rt', upd_same, g3.keep (fy.trans f2)⟩), by rw [List.length_append, List.length_singleton]; omega⟩
    · rintro σ Hy ⟨_, _, _, _, qs, rfl, fy, hfy, ha, hc⟩
      have el : (deedsL kd).take (gs.map V.ref).length = deedsL kd := List.take_of_length_le (by unfold deedsL; rw [List.length_map, List.length_map]; omega)
      rw [el] at ha
      rw [List.length_map] at hc
      exact ⟨_, _, _, _, _, _, _, qs, rfl, fy, hfy, ha, by omega⟩
  · rintro σ Hx ⟨_, _, _, _, _, _, _, qs, rfl, fr, hfx, ha, hc⟩
    rw [List.length_map, hlen] at ha hc
    rw [List.take_of_length_le (Nat.le_refl _)] at ha
    refine ⟨_, rfl, fl, _, rfl, .inl ⟨SqL.of hfx, fun b hb => ?_⟩⟩
    exact q b qs _ (fr.trans (Kp.new hb)) upd_same (ha.imp fun _ _ z => z.keep (Kp.new hb))
theorem scBfit : FnScope ["program", "room", "body", "rows"] ["program"] (defScope sBfit) := ⟨rfl, rfl, rfl, by decide +kernel, rfl, by decide +kernel, by decide +kernel⟩
theorem ok_bfit {k : Nat} {t80 tN : Nat} (F : Fun K "bodies_fit" "bodies_fit" sBfit f fd) (B : Cal P w K mg base k "bodies" ["program"] spBodies) (R : Cal P w K mg base k "room_behind" pRoom (spRoom 4)) (m80 : mg "MOST_ROWS" = some (.int 80 t80)) (mN : mg "NO_ROOM" = some (.int (-1) tN)) : FnOk P w K mg base CX0 (k + 1) f fd ["program"] spBfit := by
  obtain ⟨g, gd, GB, bB, kB, mB⟩ := B.ex
  obtain ⟨g2, gd2, GR, bR, kR, mR⟩ := R.ex
  refine F.ok scBfit (fun vs H Q E h => ?_) (fun cdv A outer s H vs Q E hr h => ?_)
  · obtain ⟨p, g, rfl, _⟩ := h
    rfl
  obtain ⟨p, g, rfl, hp, ok, q⟩ := h
  refine ⟨_, pss_cons (ps_set (i := 1) scBfit.nd rfl (Or.inl rfl) (pe_glob (v := .int 80) rfl m80 ⟨_, rfl⟩))
    (pss_cons (ps_for PassesOwn.never rfl (pi_tup (pe_call GB hr rfl mB kB bB .nil pass0 (pa_cons (pv 0) pa_nil))) (pg_tup (n := 2) rfl (pgs_cons (pg_name (i := 2) scBfit.nd rfl (Or.inl rfl)) (pgs_cons (pg_name (i := 3) scBfit.nd rfl (Or.inl rfl)) pgs_nil)))
      (pss_cons (ps_set (i := 1) scBfit.nd rfl (Or.inl rfl) (pe_call GR hr rfl mR kR bR .nil pass0 (pa_cons (pv 0) (pa_cons (pv 2) (pa_cons (pv 3) (pa_cons (pv 1) (pa_cons pe_int pa_nil)))))))
      (pss_one (ps_if (pt_cmpR op_eq (pv 1) (pe_glob (v := .int (-1)) rfl mN ⟨_, rfl⟩) (nomark _)) (pss_one (ps_ret pe_bl)) pss_nil))))
    (pss_one (ps_ret pe_bl))), ?_⟩
  first | dsimp only [cxOf, Cx.nox] | skip
  refine ⟨_, rfl, p, g, rfl, hp, ok, fun b qs H1 f1 hb hA => ?_⟩
  have hlen := hA.len
  refine ⟨b, rfl, ⟨_, SqT.of hb⟩, ?_⟩
  refine for_tup (xs := qs.map V.ref) (fun i σ Hx => (∃ (m : Nat) (x y : Option V), σ = [some (.ref p), some (.int (m : Int)), x, y] ∧ m ≤ 80 ∧ fitB (bodyL g) 80 = fitB ((bodyL g).drop i) m) ∧ Kp H1 Hx) ⟨⟨80, _, _, rfl, Nat.le_refl _, rfl⟩, Kp.refl⟩ ?_ ?_ ?_
  · rintro i σ Hx hi ⟨_, fx⟩
    exact SqT.of (fx _ _ hb)
  · rintro i x σ Hx hx ⟨⟨m, x0, y0, rfl, hm, hfit⟩, fx⟩
    obtain ⟨u, hu, rfl⟩ := mbr hx
    obtain ⟨bz, hbz, hB⟩ := hA.get hu
    obtain ⟨bd, rt, b1, b2⟩ := hB
    have hi : i < (bodyL g).length := (List.getElem?_eq_some_iff.mp hbz).1
    have ed : (bodyL g).drop i = bz :: (bodyL g).drop (i + 1) := by
      rw [List.drop_eq_getElem_cons hi]
      rw [List.getElem?_eq_getElem hi] at hbz
      cases hbz; rfl
    rw [ed] at hfit
    have hfit2 : fitB (bodyL g) 80 = (!decide (rb bz.1 bz.2 m 0 = -1) && fitB ((bodyL g).drop (i + 1)) (rb bz.1 bz.2 m 0).toNat) := hfit
    refine ⟨u, _, rfl, SqT.of (fx _ _ b1), rfl, _, _, rfl, _, _, rfl, rfl, ?_⟩
    refine ⟨_, rfl, _, rfl, _, rfl, _, rfl, V.ref p, bd, rt, bz.1, bz.2, m, 0, rfl, b2.keep fx, ok.2.2.2 bz (List.mem_of_getElem? hbz), by omega, rfl, fun H2 f2 => ?_⟩
    refine ⟨_, rfl, rfl, _, rfl, ?_⟩
    rw [iE]
    refine ite2 (fun c => ?_) (fun c => ?_)
    · have := q H2 ((f1.trans fx).trans f2)
      rw [hfit2, c] at this
      exact this
    · rw [notT c] at hfit2
      have c2 : ¬ rb bz.1 bz.2 m 0 = -1 := of_decide_eq_false (notT c)
      rcases rb_le bz.1 bz.2 m 0 with h | ⟨m', h1, h2⟩
      · exact absurd h c2
      · refine ⟨⟨m', some bd, some (.ref rt), by rw [h2]; rfl, by omega, ?_⟩, fx.trans f2⟩
        rw [hfit2, h2]
        rfl
  · rintro σ Hx ⟨⟨m, x0, y0, rfl, hm, hfit⟩, fx⟩
    rw [List.length_map, hlen, List.drop_length] at hfit
    have := q Hx (f1.trans fx)
    rw [hfit] at this
    exact this
theorem scIsP : FnScope ["thing", "kinds", "late", "rows"] ["thing"] (defScope sIsP) := ⟨rfl, rfl, rfl, by decide +kernel, rfl, by decide +kernel, by decide +kernel⟩
theorem ok_isp {k : Nat} (F : Fun K "is_program" "is_program" sIsP f fd) (T : Cal P w K mg base k "is_tuple" pTup (spTupT K)) (KS : Cal P w K mg base k "are_kinds" ["thing"] (spKinds K)) (LA : Cal P w K mg base k "are_late" pLate spLate) (AG : Cal P w K mg base k "deeds_agree" ["program"] spAgree) (BF : Cal P w K mg base k "bodies_fit" ["program"] spBfit) : FnOk P w K mg base CX0 (k + 1) f fd ["thing"] (spIsP K) := by
  obtain ⟨g, gd, GT, bT, kT, mT⟩ := T.ex
  obtain ⟨g2, gd2, GK, bK, kK, mK⟩ := KS.ex
  obtain ⟨g3, gd3, GL, bL, kL, mL⟩ := LA.ex
  obtain ⟨g4, gd4, GA, bA, kA, mA⟩ := AG.ex
  obtain ⟨g5, gd5, GB, bB, kB, mB⟩ := BF.ex
  refine F.ok scIsP (fun vs H Q E h => ?_) (fun cdv A outer s H vs Q E hr h => ?_)
  · rcases h with ⟨v, t, rfl, _⟩ | ⟨p, xs, rfl, _⟩ | ⟨p, v, x, y, t, rfl, _⟩ | ⟨p, g, rfl, _⟩ <;> rfl
  refine ⟨_, pss_cons (ps_if (pt_not (pt_val (pe_call GT hr rfl mT kT bT .nil pass0 (pa_cons (pv 0) (pa_cons pe_int (pa_cons pe_int pa_nil)))))) (pss_one (ps_ret pe_bl)) pss_nil)
    (pss_cons (ps_asg (pv 0) (pg_tup (n := 3) rfl (pgs_cons (pg_name (i := 1) scIsP.nd rfl (Or.inl rfl)) (pgs_cons (pg_name (i := 2) scIsP.nd rfl (Or.inl rfl)) (pgs_cons (pg_name (i := 3) scIsP.nd rfl (Or.inl rfl)) pgs_nil)))))
    (pss_one (ps_ret (pe_and (pe_call GK hr rfl mK kK bK .nil pass0 (pa_cons (pv 1) pa_nil)) (pe_and (pe_call GL hr rfl mL kL bL .nil pass0 (pa_cons (pv 1) (pa_cons (pv 2) pa_nil))) (pe_and (pe_call GA hr rfl mA kA bA .nil pass0 (pa_cons (pv 0) pa_nil)) (pe_one (pe_call GB hr rfl mB kB bB .nil pass0 (pa_cons (pv 0) pa_nil))))))))), ?_⟩
  first | dsimp only [cxOf, Cx.nox] | skip
  rcases h with ⟨v, t, rfl, h2, h3, q⟩ | ⟨p, xs, rfl, h2, h3, q⟩ | ⟨p, v, x, y, t, rfl, h2, h3, h4, q⟩ | ⟨p, g, rfl, hp, ok, q⟩
  · exact ⟨_, rfl, .no v t 3 3 rfl h2 h3 ⟨_, rfl, q⟩⟩
  · refine ⟨_, rfl, .yes p _ 3 3 rfl h2 ⟨_, rfl, ?_⟩⟩
    have e : (decide ((3 : Int) ≤ (xs.length : Int)) && decide ((xs.length : Int) ≤ 3)) = false := by
      by_cases c : (3 : Int) ≤ (xs.length : Int)
      · rw [decide_eq_false (by omega : ¬ (xs.length : Int) ≤ 3), Bool.and_false]
      · rw [decide_eq_false c, Bool.false_and]
    rw [e]
    exact q
  · refine ⟨_, rfl, .yes p _ 3 3 rfl h2 ⟨_, rfl, ?_⟩⟩
    refine ⟨_, rfl, p, _, rfl, SqT.of h2, rfl, _, _, rfl, _, _, rfl, _, _, rfl, rfl, ?_⟩
    exact ⟨_, rfl, .no v t rfl h3 h4 ⟨_, rfl, q⟩⟩
  · obtain ⟨kt, lt, rt, ts, hP, hk, hA, hl, hR⟩ := id hp
    obtain ⟨o1, o2, o3, o4⟩ := id ok
    refine ⟨_, rfl, .yes p _ 3 3 rfl hP ⟨_, rfl, ?_⟩⟩
    refine ⟨_, rfl, p, _, rfl, SqT.of hP, rfl, _, _, rfl, _, _, rfl, _, _, rfl, rfl, ?_⟩
    refine ⟨_, rfl, .mk kt ts g.1 rfl hk hA o1 (by omega) fun H1 f1 => ⟨_, rfl, ?_⟩⟩
    refine ite2 (fun c => ?_) (fun c => ?_)
    · refine ⟨_, rfl, _, rfl, kt, lt, ts, g.1, g.2.1, rfl, f1 _ _ hk, hA.imp fun _ _ z => z.keep f1, by omega, f1 _ _ hl, o3, fun H2 f2 => ⟨_, rfl, ?_⟩⟩
      have f12 := f1.trans f2
      refine ite2 (fun c2 => ?_) (fun c2 => ?_)
      · refine ⟨_, rfl, p, kt, _, _, ts, g.1, rfl, f12 _ _ hP, f12 _ _ hk, hA.imp fun _ _ z => z.keep f12, fun H3 f3 => ⟨_, rfl, ?_⟩⟩
        have f123 := f12.trans f3
        refine ⟨_, rfl, p, g, rfl, hp.keep f123, ok, fun H4 f4 => ?_⟩
        have e : progB g = fitB (bodyL g) 80 := by unfold progB; rw [c, c2, Bool.true_and, Bool.true_and]
        have := q H4 (f123.trans f4)
        rw [e] at this
        exact this
      · have e : progB g = false := by unfold progB; rw [c, notT c2, Bool.and_false, Bool.false_and]
        have := q H2 f12
        rw [e] at this
        exact this
    · have e : progB g = false := by unfold progB; rw [notT c, Bool.false_and, Bool.false_and]
      have := q H1 f1
      rw [e] at this
      exact this
end
end Gn
end
section
set_option Elab.async false
set_option linter.all false
set_option maxRecDepth 100000
namespace L2
open PySem PySem.Spec PyProof.Rows
section
variable {prog : Program} {w : World} {A : Around} {E : Value → Shared → Prop}
theorem draw_W {I : Addr} {fp wr : List Addr} {items : Array Value} {St : Nat → Heap → Prop} (W : Walks prog w A I fp wr items.size (fun i v => items[i]? = some v) St) : ∀ (n i : Nat) (s : Shared) (Q : List Value → Shared → Prop), St i s.heap → i + n ≤ items.size →
    (∀ h' tk, St (i + n) h' → (∀ b o, b ∉ wr → s.heap.get? b = some o → h'.get? b = some o) → Q ((items.toList.drop i).take n) { s with heap := h', toks := tk }) → wpAny (model prog w) A (draw (.ref I) n) Q E s
  | 0, i, s, Q, st, _, hQ => by
    show wpAny _ _ (pure []) Q E s
    exact wpAny_pure (by simpa using hQ s.heap s.toks st fun b o _ e => e)
  | n + 1, i, s, Q, st, hle, hQ => by
    have hlt : i < items.size := by omega
    show wpAny _ _ (pyNext (.ref I) >>= _) Q E s
    refine wpAny_bind (W.item i s _ _ hlt st fun v h1 tk hv st1 k1 => ?_)
    refine wpAny_bind (wpAny_holding (draw_W W n (i + 1) _ _ st1 (by omega) fun h2 tk2 st2 k2 => wpAny_pure ?_))
    have hd : items.toList.drop i = items[i] :: items.toList.drop (i + 1) := by simp [List.drop_eq_getElem_cons, hlt]
    have hv2 : v = items[i] := by rw [Array.getElem?_eq_getElem hlt] at hv; exact (Option.some.inj hv).symm
    have := hQ h2 tk2 (by rw [show i + (n + 1) = i + 1 + n by omega]; exact st2) fun b o hb e => k2 b o hb (k1 b o hb e)
    rw [hd, List.take_succ_cons] at this
    rw [hv2]
    exact this
theorem unpack_list {s : Shared} {t : Addr} {items : Array Value} {Q : List Value → Shared → Prop} (hh : A.handled = none) (ht : s.heap.IsList t items)
    (hQ : ∀ h' tk, (∀ b o, s.heap.get? b = some o → h'.get? b = some o) → Q items.toList { s with heap := h', toks := tk }) : wpAny (model prog w) A (unpackItems (.ref t) items.size none) Q E s := by
  obtain ⟨o, ho, co⟩ := id ht
  have hlt : t < s.heap.objs.size := Heap.lt_size ho
  have W := Walks.list (prog := prog) (w := w) (A := A) hh s.heap.objs.size t (Nat.ne_of_lt hlt) items
  unfold unpackItems
  refine wpAny_bind ?_
  unfold notIterableAtAll
  refine wpAny_bind (wpAny_specialOf (T := "list") ⟨o, ho, co.1⟩ PySem.F.slot_list_iter.lookup ?_)
  refine wpAny_pure ?_
  simp only [Bool.false_eq_true, if_false]
  refine wpAny_bind (wpAny_holding (wpAny_pyIter_list ht ?_))
  refine wpAny_bind (wpAny_holding (draw_W W items.size 0 _ _ ⟨⟨_, Heap.get?_push_size _ rfl, rfl, rfl⟩, ⟨o, Heap.get?_push_of_some _ ho, co⟩⟩ (by omega) fun h1 tk1 st1 k1 => ?_))
  have hall : List.take items.size (List.drop 0 items.toList) = items.toList := by
    rw [List.drop_zero]; exact List.take_of_length_le (by simp)
  rw [hall]
  rw [if_neg (by simp)]
  rw [Nat.zero_add] at st1
  refine wpAny_bind (wpAny_holding (W.done _ _ _ st1 fun h2 tk2 k2 => ?_))
  simp only [Option.isSome_none, Bool.false_eq_true, if_false]
  have ne : ∀ b o, s.heap.get? b = some o → b ∉ [s.heap.objs.size] := fun b o e z => absurd (List.mem_singleton.mp z) (Nat.ne_of_lt (Heap.lt_size e))
  exact wpAny_pure (hQ h2 tk2 fun b o e => k2 b o (ne b o e) (k1 b o (ne b o e) (Heap.get?_push_of_some _ e)))
end
section
variable {X : Cx}
def gLst (K : PySem.W.Frag) (n : Nat) (t : TGs) : TG := fun v σ H Q => ∃ a xs, v = .ref a ∧ SqL K H a xs ∧ xs.length = n ∧ t xs σ H Q
theorem pg_lst {es : List Expr} {k : Nat} {t : TGs} {n : Nat} {pos : Pos} (hc : X.calm = true) (h : PGs X es t)
    (hn : (assignEach es X.env).length = n := by rfl) (hst : (assignEach es X.env).findIdx? (·.1) = none := by rfl) : PG X (.Tuple es k pos) (gLst X.K n t) := by
  intro pins s σ H v u Q I r hw
  obtain ⟨a, xs, e1, hq, hl, hw⟩ := hw
  subst e1
  cases r
  obtain ⟨its, rv, pl, hz⟩ := I.list hq
  rw [assign_Tuple]
  refine wpAny_bind (wpAny_standAt ?_)
  unfold unpack
  have hln : (assignEach es X.env).length = its.toArray.size := by rw [hn, ← hl, rv.length]; simp
  rw [hln, hst]
  refine wpAny_bind (wpAny_holding (unpack_list (I.ok.hd hc) pl.isList fun h' tk k => ?_))
  have I1 : Inv X pins σ H { s with heap := h', toks := tk } := I.kept (t' := tk) k
  exact h pins _ σ H xs _ Q I1 (by simpa using rv) hw
def rMulT : R2 := fun x y H Q => ∃ z n, x = .str z ∧ y = .int n ∧ z.length ≤ 100 ∧ 0 ≤ n ∧ n ≤ 1000 ∧ Q (.str (Txt.mul z n)) H
theorem op_mulT : OpR X (binaryOp .Mult) rMulT := by
  intro pins s σ H x y v u Q I rx ry h
  obtain ⟨z, n, rfl, rfl, hz, h0, h1, q⟩ := h
  obtain ⟨t, rfl⟩ := rx
  obtain ⟨t', rfl⟩ := ry
  refine SB.mul ⟨?_, ?_, ?_⟩ fun t'' k => ⟨.str (Txt.mul z n), H, I.tok _, ⟨t'', rfl⟩, q⟩
  · rw [decide_eq_false (by omega), decide_eq_false (by omega)]; rfl
  · intro h2 _
    have h3 : (1000 : Int) ≤ (2 ^ 63 - 1) / n := by
      rw [Int.le_ediv_iff_mul_le (by omega)]
      omega
    omega
  · intro _ _
    have h4 : z.length * n.toNat ≤ 100 * 1000 := Nat.mul_le_mul hz (by omega)
    have h5 : (100000 : Nat) ≤ sizeLine := by decide
    show decide (z.length * n.toNat > sizeLine) = false
    exact decide_eq_false (by omega)
end
end L2
end
section
set_option Elab.async false
set_option linter.all false
set_option maxRecDepth 100000
namespace Gn
open PySem L2
abbrev sLWord : Stmt := top 40
def wordS (n l : Nat) : Str := ((⟨#[97 + n / 10 % 10]⟩ : Str) ++ (⟨#[107 + n % 10]⟩ : Str)) ++ Txt.mul "z" ((l : Int) - 2)
inductive SpLWord (vs : List V) (H : Hp) (Q : VK) : Prop
  | mk (n l : Nat) (h1 : vs = [.int (n : Int), .int (l : Int)]) (h2 : n < 100) (h3 : 2 ≤ l) (h4 : l ≤ 20) (h5 : Q (.str (wordS n l)) H) : SpLWord vs H Q
def spLWord : Sp := fun vs H Q _ => SpLWord vs H Q
theorem at_abc : ∀ j : Nat, j < 10 → atI ("abcdefghij" : Str).cps.toList (j : Int) = some (97 + j) := by decide +kernel
theorem at_klm : ∀ j : Nat, j < 10 → atI ("klmnopqrst" : Str).cps.toList (j : Int) = some (107 + j) := by decide +kernel
theorem mul_len : ∀ l : Nat, l < 21 → (Txt.mul "z" ((l : Int) - 2)).length ≤ 20 := by decide +kernel
section
variable {P : Program} {w : World} {K : PySem.W.Frag} {mg : Str → Option Value} {base : Heap} {f : Addr} {fd : FuncData}
abbrev pLWord : List Str := ["_law_number", "_law_long"]
theorem scLWord : FnScope pLWord pLWord (defScope sLWord) := ⟨rfl, rfl, rfl, by decide +kernel, rfl, by decide +kernel, by decide +kernel⟩
theorem ok_lword {k : Nat} (F : Fun K "_law_word" "_law_word" sLWord f fd) : FnOk P w K mg base CX0 (k + 1) f fd pLWord spLWord := by
  refine F.ok scLWord (fun vs H Q E h => ?_) (fun cdv A outer s H vs Q E hr h => ?_)
  · obtain ⟨n, l, rfl, _⟩ := h
    rfl
  obtain ⟨n, l, rfl, hn, h2, h20, q⟩ := h
  refine ⟨_, pss_one (ps_ret (pe_op op_add_str (pe_op op_add_str (pe_ix ix_str pe_str (pe_op op_mod (pe_op op_fdiv (pv 0) pe_int) pe_int) (fun _ _ => rfl)) (pe_ix ix_str pe_str (pe_op op_mod (pv 0) pe_int) (fun _ _ => rfl))) (pe_op op_mulT pe_str (pe_op op_sub (pv 1) pe_int)))), ?_⟩
  first | dsimp only [cxOf, Cx.nox] | skip
  have s100 : 100 ≤ sizeLine := Nat.le_of_lt (small1000 (by decide))
  have e1 : ((n : Int) / 10) % 10 = ((n / 10 % 10 : Nat) : Int) := by omega
  have e2 : (n : Int) % 10 = ((n % 10 : Nat) : Int) := by omega
  refine ⟨_, rfl, _, _, rfl, rfl, ⟨by decide, by decide⟩, _, _, rfl, rfl, (show (0 : Int) < 10 by decide), _, _, _, rfl, rfl, Nat.le_trans (by decide +kernel) s100, (by rw [e1]; exact at_abc _ (by omega)), ?_⟩
  refine ⟨_, rfl, _, _, rfl, rfl, (show (0 : Int) < 10 by decide), _, _, _, rfl, rfl, Nat.le_trans (by decide +kernel) s100, (by rw [e2]; exact at_klm _ (by omega)), ?_⟩
  refine ⟨_, _, rfl, rfl, Nat.le_trans (show (2 : Nat) ≤ 100 by decide) s100, ?_⟩
  refine ⟨_, rfl, _, _, rfl, rfl, _, _, rfl, rfl, by decide +kernel, by omega, by omega, ?_⟩
  refine ⟨_, _, rfl, rfl, ?_, q⟩
  have := mul_len l (by omega)
  have h3 : ((⟨#[97 + n / 10 % 10]⟩ : Str) ++ (⟨#[107 + n % 10]⟩ : Str)).length = 2 := rfl
  have : Txt.mul "z" ((l : Int) - 2) = Txt.mul "z" ((l : Int) - 2) := rfl
  omega
end
end Gn
end
section
set_option Elab.async false
set_option linter.all false
set_option maxRecDepth 100000
namespace Gn
open PySem L2
theorem RowsAt.keepT {H H' : Hp} (t : Tup H H') : ∀ {d n : Nat} {p : Addr}, RowsAt H d n p → RowsAt H' d n p
  | 0, _, _, ⟨rs, h1, h2, h3⟩ => ⟨rs, t _ _ h1, h2, fun r hr => t _ _ (h3 r hr)⟩
  | _ + 1, _, _, ⟨rs, q, p', h1, h2, h3, h4, h5⟩ => ⟨rs, q, p', t _ _ h1, h2, fun r hr => t _ _ (h3 r hr), t _ _ h4, RowsAt.keepT t h5⟩
theorem DeedAt.keepT {H H' : Hp} (t : Tup H H') {g : Addr} {d : Dd} (h : DeedAt H g d) : DeedAt H' g d := by
  obtain ⟨pt, rt, h1, h2, h3⟩ := h
  exact ⟨pt, rt, t _ _ h1, t _ _ h2, h3.keepT t⟩
theorem KindAt.keepT {H H' : Hp} (t : Tup H H') {a : Addr} {k : Kd} (h : KindAt H a k) : KindAt H' a k := by
  obtain ⟨dt, gs, h1, h2, h3⟩ := h
  exact ⟨dt, gs, t _ _ h1, t _ _ h2, h3.imp fun _ _ g => g.keepT t⟩
theorem Kp.tup {H H' : Hp} (f : Kp H H') : Tup H H' := fun _ _ h => f _ _ h
theorem comp_vr {D : Addr} {vs : List V} {x0 : Option V} {c : List (Option V)} {te : TE} {H : Hp} {Q : Hp → Prop} (hn : vs.length ≤ 1000) (hD : H D = none)
    (hs : ∀ (i : Nat) v Hx (R : V → Hp → Prop), vs[i]? = some v → Kp H Hx → (∀ H4, Kp Hx H4 → R v H4) → te (some (.int ((0 : Int) + i)) :: c) Hx R)
    (hd : ∀ Hx, Kp H Hx → Hx D = some (.lst vs) → Q Hx) : CompW (Itr 0 vs.length) (gName 0) tAll te D (x0 :: c) (upd H D (.lst [])) Q := by
  refine compW_range (fun i σ Hx => (∃ y, σ = y :: c) ∧ Kp H Hx ∧ Hx D = some (.lst (vs.take i))) ⟨⟨_, rfl⟩, Kp.new hD, upd_same⟩ ?_ ?_
  · rintro i σ Hx hi ⟨⟨y, rfl⟩, f, hDx⟩
    have hb : vs[i]? = some vs[i] := List.getElem?_eq_getElem hi
    show te (some (.int ((0 : Int) + i)) :: c) Hx _
    refine hs i _ Hx _ hb f fun H4 f4 => ⟨_, f4 _ _ hDx, small1000 (by rw [List.length_take]; omega), ⟨_, rfl⟩, (f.trans f4).put hD, ?_⟩
    rw [upd_same, List.take_add_one, hb]
    rfl
  · rintro σ Hx ⟨_, f, hDx⟩
    rw [List.take_of_length_le (Nat.le_refl _)] at hDx
    exact hd Hx f hDx
theorem comp_rr {α : Type} {D : Addr} {ds : List α} (R : Hp → Addr → α → Prop) (kt : ∀ {H H' : Hp} {a x}, Tup H H' → R H a x → R H' a x) {x0 : Option V} {c : List (Option V)} {te : TE} {H : Hp} {Q : Hp → Prop} (hn : ds.length ≤ 1000) (hD : H D = none)
    (hs : ∀ (i : Nat) d Hx (Z : V → Hp → Prop), ds[i]? = some d → Kp H Hx → (∀ g H4, Kp Hx H4 → R H4 g d → Z (.ref g) H4) → te (some (.int ((0 : Int) + i)) :: c) Hx Z)
    (hd : ∀ Hx gs, Kp H Hx → Hx D = some (.lst (gs.map V.ref)) → A2 (R Hx) gs ds → Q Hx) : CompW (Itr 0 ds.length) (gName 0) tAll te D (x0 :: c) (upd H D (.lst [])) Q := by
  refine compW_range (fun i σ Hx => (∃ y, σ = y :: c) ∧ Kp H Hx ∧ ∃ gs : List Addr, Hx D = some (.lst (gs.map V.ref)) ∧ A2 (R Hx) gs (ds.take i) ∧ gs.length = i) ⟨⟨_, rfl⟩, Kp.new hD, [], upd_same, .nil, rfl⟩ ?_ ?_
  · rintro i σ Hx hi ⟨⟨y, rfl⟩, f, gs, hDx, hA, hl⟩
    have hb : ds[i]? = some ds[i] := List.getElem?_eq_getElem hi
    show te (some (.int ((0 : Int) + i)) :: c) Hx _
    refine hs i _ Hx _ hb f fun g H4 f4 hR => ⟨_, f4 _ _ hDx, small1000 (by rw [List.length_map]; omega), ⟨_, rfl⟩, (f.trans f4).put hD, gs ++ [g], ?_, ?_, by rw [List.length_append, hl]; rfl⟩
    · rw [upd_same, List.map_append]; rfl
    · have t : Tup H4 (upd H4 D (.lst (gs.map V.ref ++ [V.ref g]))) := Tup.lst (f4 _ _ hDx)
      rw [List.take_add_one, hb]
      exact (hA.imp fun _ _ z => kt (f4.tup.trans t) z).snoc (kt t hR)
  · rintro σ Hx ⟨_, f, gs, hDx, hA, _⟩
    rw [List.take_of_length_le (Nat.le_refl _)] at hA
    exact hd Hx gs f hDx hA
theorem comp_rl {α : Type} {K : PySem.W.Frag} {a D : Addr} {ss : List Str} {ds : List α} (R : Hp → Addr → α → Prop) (kt : ∀ {H H' : Hp} {a x}, Tup H H' → R H a x → R H' a x) {x0 : Option V} {c : List (Option V)} {te : TE} {H : Hp} {Q : Hp → Prop} (hx : SqL K H a (ss.map V.str)) (hl0 : ds.length = ss.length) (hn : ds.length ≤ 1000) (hD : H D = none)
    (hs : ∀ (i : Nat) x d Hx (Z : V → Hp → Prop), ss[i]? = some x → ds[i]? = some d → Kp H Hx → (∀ g H4, Kp Hx H4 → R H4 g d → Z (.ref g) H4) → te (some (.str x) :: c) Hx Z)
    (hd : ∀ Hx gs, Kp H Hx → Hx D = some (.lst (gs.map V.ref)) → A2 (R Hx) gs ds → Q Hx) : CompW (Itl K a) (gName 0) tAll te D (x0 :: c) (upd H D (.lst [])) Q := by
  refine compW_list (xs := ss.map V.str) (fun i σ Hx => (∃ y, σ = y :: c) ∧ Kp H Hx ∧ ∃ gs : List Addr, Hx D = some (.lst (gs.map V.ref)) ∧ A2 (R Hx) gs (ds.take i) ∧ gs.length = i) ⟨⟨_, rfl⟩, Kp.new hD, [], upd_same, .nil, rfl⟩ ?_ ?_ ?_
  · rintro i σ Hx hi ⟨_, f, _⟩
    exact f.seq hx
  · rintro i x σ Hx hxi ⟨⟨y, rfl⟩, f, gs, hDx, hA, hl⟩
    obtain ⟨z, hz, rfl⟩ := mb hxi
    have hi : i < ds.length := by rw [hl0]; exact (List.getElem?_eq_some_iff.mp hz).1
    have hb : ds[i]? = some ds[i] := List.getElem?_eq_getElem hi
    show te (some (.str z) :: c) Hx _
    refine hs i z _ Hx _ hz hb f fun g H4 f4 hR => ⟨_, f4 _ _ hDx, small1000 (by rw [List.length_map]; omega), ⟨_, rfl⟩, (f.trans f4).put hD, gs ++ [g], ?_, ?_, by rw [List.length_append, hl]; rfl⟩
    · rw [upd_same, List.map_append]; rfl
    · have t : Tup H4 (upd H4 D (.lst (gs.map V.ref ++ [V.ref g]))) := Tup.lst (f4 _ _ hDx)
      rw [List.take_add_one, hb]
      exact (hA.imp fun _ _ z => kt (f4.tup.trans t) z).snoc (kt t hR)
  · rintro σ Hx ⟨_, f, gs, hDx, hA, _⟩
    rw [List.length_map, ← hl0, List.take_of_length_le (Nat.le_refl _)] at hA
    exact hd Hx gs f hDx hA
theorem cut_m1 (xs : List V) (h : xs ≠ []) : cutV xs none (some (-1)) = xs.take (xs.length - 1) := by
  have h1 : 0 < xs.length := List.length_pos_iff.mpr h
  unfold cutV HT.sIx
  simp
  omega
theorem cut_to (xs : List V) (k : Nat) : cutV xs none (some (k : Int)) = xs.take k := by
  unfold cutV
  rw [HT.sIx_nat, HT.sIx_none, List.drop_zero, Nat.sub_zero]
  rcases Nat.le_total k xs.length with h | h
  · rw [Nat.min_eq_left h]
  · rw [Nat.min_eq_right h, List.take_of_length_le (Nat.le_refl _), List.take_of_length_le h]
theorem wordS_list (n l : Nat) : (wordS n l).cps.toList = (97 + n / 10 % 10) :: (107 + n % 10) :: (Txt.mul "z" ((l : Int) - 2)).cps.toList := by
  show (((#[97 + n / 10 % 10] : Array Nat) ++ (#[107 + n % 10] : Array Nat)) ++ (Txt.mul "z" ((l : Int) - 2)).cps).toList = _
  simp
theorem wordS_le {n m l : Nat} (h : n < m) (hm : m < 100) : leS (wordS n l) (wordS m l) := by
  unfold leS
  rw [wordS_list, wordS_list, List.cons_le_cons_iff]
  by_cases e : n / 10 = m / 10
  · right
    refine ⟨by rw [e], ?_⟩
    rw [List.cons_le_cons_iff]
    left
    omega
  · left
    omega
end Gn
end
section
set_option Elab.async false
set_option linter.all false
set_option maxRecDepth 100000
namespace Gn
open PySem L2
abbrev sBuilt : Stmt := top 41
def wordsS (m l : Nat) : List Str := (List.range m).map fun k => wordS k l
def builtG (many deeds params late rows deep long : Nat) : Pg :=
  ((wordsS (many - 1) long).map (fun n => (n, [])) ++ [(wordS (many - 1) long, (List.range deeds).map fun k => (wordS k 2, wordsS params 3, 0))], (wordsS many long).take late, deep, rows - 1)
inductive SpBuilt (vs : List V) (H : Hp) (Q : VK) : Prop
  | mk (many deeds params late rows deep long : Nat) (h1 : vs = [.int (many : Int), .int (deeds : Int), .int (params : Int), .int (late : Int), .int (rows : Int), .int (deep : Int), .int (long : Int)])
      (b1 : 1 ≤ many ∧ many ≤ 20) (b2 : deeds ≤ 20) (b3 : params ≤ 20) (b4 : late ≤ 20) (b5 : 2 ≤ rows ∧ rows ≤ 50) (b6 : 1 ≤ deep ∧ deep ≤ 20) (b7 : 2 ≤ long ∧ long ≤ 20)
      (h2 : ∀ (p : Addr) (H' : Hp), Kp H H' → ProgAt H' p (builtG many deeds params late rows deep long) → Q (.ref p) H') : SpBuilt vs H Q
def spBuilt : Sp := fun vs H Q _ => SpBuilt vs H Q
theorem rep_flat (n : Nat) (a : Addr) : (List.replicate n [V.ref a]).flatten = (List.replicate n a).map V.ref := by
  induction n with
  | zero => rfl
  | succ n ih => rw [List.replicate_succ, List.flatten_cons, ih, List.replicate_succ, List.map_cons]; rfl
theorem wordsS_succ (m l : Nat) : wordsS (m + 1) l = wordsS m l ++ [wordS m l] := by
  unfold wordsS
  rw [List.range_succ, List.map_append]
  rfl
theorem wordsS_len (m l : Nat) : (wordsS m l).length = m := by unfold wordsS; rw [List.length_map, List.length_range]
theorem wordsS_cut (m l : Nat) : cutV ((wordsS (m + 1) l).map V.str) none (some (-1)) = (wordsS m l).map V.str := by
  rw [cut_m1 _ (by rw [wordsS_succ]; simp), List.length_map, wordsS_len, wordsS_succ, List.map_append]
  rw [List.take_append_of_le_length (by rw [List.length_map, wordsS_len]; omega)]
  exact List.take_of_length_le (by rw [List.length_map, wordsS_len]; omega)
theorem wordsS_last (m l : Nat) : atI ((wordsS (m + 1) l).map V.str) (-1) = some (.str (wordS m l)) := by
  rw [wordsS_succ, List.map_append]
  unfold atI ixN
  have hlen : ((wordsS m l).map V.str ++ [wordS m l].map V.str).length = m + 1 := by simp [wordsS_len]
  rw [hlen, if_neg (by decide), if_pos (by omega)]
  have e : (-1 + ((m + 1 : Nat) : Int)).toNat = m := by omega
  rw [e]
  show ((wordsS m l).map V.str ++ [wordS m l].map V.str)[m]? = _
  rw [List.getElem?_append_right (by rw [List.length_map, wordsS_len]; omega)]
  simp [wordsS_len]
theorem wordsS_pw (m l : Nat) (h : m ≤ 100) : (wordsS m l).Pairwise leS := by
  unfold wordsS
  rw [List.pairwise_map]
  exact List.Pairwise.imp_of_mem (fun {a b} _ hb hab => wordS_le hab (by have := List.mem_range.mp hb; omega)) List.pairwise_lt_range
section
variable {P : Program} {w : World} {K : PySem.W.Frag} {mg : Str → Option Value} {base : Heap} {f : Addr} {fd : FuncData}
abbrev rTupOf (K : PySem.W.Frag) : List V → Hp → VK → Prop := fun xs H Q => ∃ p ys, xs = [.ref p] ∧ ((SqL K H p ys ∧ ∀ l, H l = none → Q (.ref l) (upd H l (.tup ys))) ∨ (SqT K H p ys ∧ Q (.ref p) H))
abbrev pBuilt : List Str := ["_law_many", "_law_deeds", "_law_params", "_law_late", "_law_rows", "_law_deep", "_law_long"]
theorem scBuilt : FnScope ["_law_many", "_law_deeds", "_law_params", "_law_late", "_law_rows", "_law_deep", "_law_long", "_law_names", "_law_has", "_law_kinds", "_law_inner", "_law_k", "_law_main"] pBuilt (defScope sBuilt) := ⟨rfl, rfl, rfl, by decide +kernel, rfl, by decide +kernel, by decide +kernel⟩
set_option maxHeartbeats 2000000 in
theorem ok_built {k : Nat} (F : Fun K "_law_built" "_law_built" sBuilt f fd) (W : Cal P w K mg base k "_law_word" pLWord spLWord) (mr : mg "range" = none) (mt : mg "tuple" = none) (ml : mg "len" = none) (mso : mg "sorted" = none) : FnOk P w K mg base CX0 (k + 1) f fd pBuilt spBuilt := by
  obtain ⟨g, gd, GW, bW, kW, mW⟩ := W.ex
  refine F.ok scBuilt (fun vs H Q E h => ?_) (fun cdv A outer s H vs Q E hr h => ?_)
  · obtain ⟨many, deeds, params, late, rows, deep, long, rfl, _⟩ := h
    rfl
  obtain ⟨many, deeds, params, late, rows, deep, long, rfl, b1, b2, b3, b4, b5, b6, b7, q⟩ := h
  have nd1 : (["_law_k", "_law_long"] : List Str).Nodup := by decide +kernel
  have nd2 : (["_law_k", "_law_params"] : List Str).Nodup := by decide +kernel
  have nd3 : (["_law_j"] : List Str).Nodup := by decide +kernel
  have nd4 : (["_law_name"] : List Str).Nodup := by decide +kernel
  refine ⟨_, pss_cons (ps_setComp (i := 7) (N' := ["_law_k", "_law_long"]) (src := [none, some 6]) rfl scBuilt.nd rfl rfl ⟨rfl, by decide +kernel, by decide +kernel, rfl, rfl, rfl⟩
        (pi_range1 rfl mr (pa_cons (pv 0) pa_nil)) (g := gName 0) (fun _ _ _ _ => pg_name (i := 0) nd1 rfl (Or.inl rfl) (Or.inr rfl)) (fun _ _ _ _ => pts_nil)
        (te := tCall spLWord [] E0 (tCons (tVar 0) (tCons (tVar 1) tNil))) (fun _ _ _ _ => pe_call GW hr rfl mW kW bW .nil pass0 (pa_cons (pv 0) (pa_cons (pv 1) pa_nil))))
    (pss_cons (ps_set (i := 8) scBuilt.nd rfl (Or.inl rfl) (pe_callTy call_tuple_of rfl mt (by decide +kernel) (pa_cons (pe_comp (N' := ["_law_k", "_law_params"]) (src := [none, some 2]) rfl ⟨rfl, by decide +kernel, by decide +kernel, rfl, rfl, rfl⟩
        (pi_range1 rfl mr (pa_cons (pv 1) pa_nil)) (g := gName 0) (fun _ _ _ _ => pg_name (i := 0) nd2 rfl (Or.inl rfl) (Or.inr rfl)) (fun _ _ _ _ => pts_nil)
        (te := tTup (tCons (tCall spLWord [] E0 (tCons (tVar 0) (tCons (tC (.int 2)) tNil))) (tCons (tCB (rTupOf K) (tCons (tComp (iRng1 (tCons (tVar 1) tNil)) [none] (gName 0) tAll (tCall spLWord [] E0 (tCons (tVar 0) (tCons (tC (.int 3)) tNil)))) tNil)) (tCons (tTup tNil) (tCons (tC .non) tNil)))))
        (fun _ _ _ _ => pe_tup (pa_cons (pe_call GW hr rfl mW kW bW .nil pass0 (pa_cons (pv 0) (pa_cons pe_int pa_nil))) (pa_cons (pe_callTy call_tuple_of rfl mt (by decide +kernel) (pa_cons (pe_comp (N' := ["_law_j"]) (src := [none]) rfl ⟨rfl, by decide +kernel, by decide +kernel, rfl, rfl, rfl⟩
          (pi_range1 rfl mr (pa_cons (pv 1) pa_nil)) (g := gName 0) (fun _ _ _ _ => pg_name (i := 0) nd3 rfl (Or.inl rfl) (Or.inr rfl)) (fun _ _ _ _ => pts_nil)
          (te := tCall spLWord [] E0 (tCons (tVar 0) (tCons (tC (.int 3)) tNil))) (fun _ _ _ _ => pe_call GW hr rfl mW kW bW .nil pass0 (pa_cons (pv 0) (pa_cons pe_int pa_nil)))) pa_nil))
          (pa_cons (pe_tup pa_nil) (pa_cons pe_non pa_nil)))))) pa_nil)))
    (pss_cons (ps_set (i := 9) scBuilt.nd rfl (Or.inl rfl) (pe_op op_cat (pe_comp (N' := ["_law_name"]) (src := [none]) rfl ⟨rfl, by decide +kernel, by decide +kernel, rfl, rfl, rfl⟩
        (pi_list (pe_slice sl_list (pv 7) po_none (po_some (pe_un un_neg pe_int)))) (g := gName 0) (fun _ _ _ _ => pg_name (i := 0) nd4 rfl (Or.inl rfl) (Or.inr rfl)) (fun _ _ _ _ => pts_nil)
        (te := tTup (tCons (tVar 0) (tCons (tC .non) (tCons (tTup tNil) tNil)))) (fun _ _ _ _ => pe_tup (pa_cons (pv 0) (pa_cons pe_non (pa_cons (pe_tup pa_nil) pa_nil)))))
        (pe_lst (pa_cons (pe_tup (pa_cons (eI (pv 7) (pe_un un_neg pe_int)) (pa_cons pe_non (pa_cons (pv 8) pa_nil)))) pa_nil))))
    (pss_cons (ps_set (i := 10) scBuilt.nd rfl (Or.inl rfl) (pe_tup pa_nil))
    (pss_cons (ps_for PassesOwn.never rfl (pi_range1 rfl mr (pa_cons (pv 5) pa_nil)) (pg_name (i := 11) scBuilt.nd rfl (Or.inl rfl))
      (pss_one (ps_set (i := 10) scBuilt.nd rfl (Or.inl rfl) (pe_tup (pa_cons (pe_tup (pa_cons pe_str (pa_cons (pv 10) pa_nil))) pa_nil)))))
    (pss_cons (ps_set (i := 12) scBuilt.nd rfl (Or.inl rfl) (pe_op op_catT (pe_callTy call_tuple_of rfl mt (by decide +kernel) (pa_cons (pe_op op_rep (pe_lst (pa_cons (pe_tup (pa_cons pe_str (pa_cons pe_str pa_nil))) pa_nil)) (pe_op op_sub (pv 4) (pe_callB call_len_seq rfl ml PySem.boot_len (pa_cons (pv 10) pa_nil)))) pa_nil)) (pv 10)))
    (pss_one (ps_ret (pe_tup (pa_cons (pe_callTy call_tuple_of rfl mt (by decide +kernel) (pa_cons (pv 9) pa_nil)) (pa_cons (pe_callTy call_tuple_of rfl mt (by decide +kernel) (pa_cons (pe_callB call_sorted_strs rfl mso (by decide +kernel) (pa_cons (pe_slice sl_list (pv 7) po_none (po_some (pv 3))) pa_nil)) pa_nil)) (pa_cons (pv 12) pa_nil))))))))))), ?_⟩
  first | dsimp only [cxOf, Cx.nox] | skip
  obtain ⟨b1a, b1b⟩ := b1
  obtain ⟨mm, rfl⟩ : ∃ mm, many = mm + 1 := ⟨many - 1, by omega⟩
  obtain ⟨b5a, b5b⟩ := b5
  obtain ⟨b6a, b6b⟩ := b6
  obtain ⟨b7a, b7b⟩ := b7
  have eb : builtG (mm + 1) deeds params late rows deep long = ((wordsS mm long).map (fun n => (n, [])) ++ [(wordS mm long, (List.range deeds).map fun k => (wordS k 2, wordsS params 3, 0))], (wordsS (mm + 1) long).take late, deep, rows - 1) := rfl
  rw [eb] at q
  have s1 : ∀ {n : Nat}, n ≤ 1000 → n ≤ sizeLine := fun h => Nat.le_of_lt (small1000 h)
  have wl : ∀ m l, (wordsS m l).length = m := fun m l => by unfold wordsS; rw [List.length_map, List.length_range]
  have wg : ∀ {m l i : Nat} {v : V}, ((wordsS m l).map V.str)[i]? = some v → i < m ∧ v = .str (wordS i l) := fun {m l i v} h => by
    unfold wordsS at h
    rw [List.map_map, List.getElem?_map] at h
    cases hr : (List.range m)[i]? with
    | none => rw [hr] at h; cases h
    | some j =>
      obtain ⟨h1, h2⟩ := List.getElem?_eq_some_iff.mp hr
      rw [List.length_range] at h1
      rw [List.getElem_range] at h2
      subst h2
      rw [hr] at h
      cases h
      exact ⟨h1, rfl⟩
  refine ⟨_, rfl, _, rfl, by omega, by omega, fun D1 hD1 => ?_⟩
  rw [show (((mm + 1 : Nat) : Int)).toNat = ((wordsS (mm + 1) long).map V.str).length by rw [List.length_map, wl]; omega]
  refine comp_vr (c := [some (.int (long : Int))]) (by rw [List.length_map, wl]; omega) hD1 ?_ ?_
  · intro i v Hx R hv f r
    obtain ⟨hi, rfl⟩ := wg hv
    rw [Int.zero_add]
    exact ⟨_, rfl, _, rfl, i, long, rfl, by omega, b7a, b7b, r Hx Kp.refl⟩
  intro H1 f1 hD1x
  refine ⟨_, rfl, _, rfl, by omega, by omega, fun D2 hD2 => ?_⟩
  rw [show ((deeds : Int)).toNat = ((List.range deeds).map fun k => ((wordS k 2, wordsS params 3, 0) : Dd)).length by rw [List.length_map, List.length_range]; omega]
  refine comp_rr (ds := (List.range deeds).map fun k => ((wordS k 2, wordsS params 3, 0) : Dd)) DeedAt (fun t h => h.keepT t) (c := [some (.int (params : Int))]) (by rw [List.length_map, List.length_range]; omega) hD2 ?_ ?_
  · intro i d Hx Z hd f r
    rw [List.getElem?_map] at hd
    obtain ⟨hi, rfl⟩ : i < deeds ∧ d = (wordS i 2, wordsS params 3, 0) := by
      cases hr : (List.range deeds)[i]? with
      | none => rw [hr] at hd; cases hd
      | some j =>
        obtain ⟨h1, h2⟩ := List.getElem?_eq_some_iff.mp hr
        rw [List.length_range] at h1
        rw [List.getElem_range] at h2
        subst h2
        rw [hr] at hd
        cases hd
        exact ⟨h1, rfl⟩
    rw [Int.zero_add]
    refine ⟨_, rfl, i, 2, rfl, by omega, by decide, by decide, ?_⟩
    refine ⟨_, rfl, _, rfl, by omega, by omega, fun D3 hD3 => ?_⟩
    rw [show ((params : Int)).toNat = ((wordsS params 3).map V.str).length by rw [List.length_map, wl]; omega]
    refine comp_vr (c := []) (by rw [List.length_map, wl]; omega) hD3 ?_ ?_
    · intro j v Hy R hv fy ry
      obtain ⟨hj, rfl⟩ := wg hv
      rw [Int.zero_add]
      exact ⟨_, rfl, j, 3, rfl, by omega, by decide, by decide, ry Hy Kp.refl⟩
    intro Hy fy hDy
    refine ⟨D3, _, rfl, .inl ⟨SqL.of hDy, fun pt hpt => ?_⟩⟩
    refine ⟨Nat.zero_le _, fun rt hrt => ⟨s1 (show (4 : Nat) ≤ 1000 by decide), fun gt hgt => ?_⟩⟩
    have k1 := (Kp.new (o := .tup ([] : List V)) hrt)
    have k2 := (Kp.new (o := .tup [V.str (wordS i 2), .ref pt, .ref rt, .non]) hgt)
    exact r gt _ (((fy.trans (Kp.new hpt)).trans k1).trans k2) ⟨pt, rt, upd_same, k2 _ _ (k1 _ _ upd_same), ⟨[], k2 _ _ upd_same, rfl, fun r hr => by simp at hr⟩⟩
  intro H2 gs f2 hD2x hA2
  refine ⟨D2, _, rfl, .inl ⟨SqL.of hD2x, fun dt hdt => ?_⟩⟩
  have f2' := f2.trans (Kp.new (o := .tup (gs.map V.ref)) hdt)
  have hD1y := f2' _ _ hD1x
  refine ⟨_, rfl, _, rfl, _, rfl, D1, _, rfl, SqL.of hD1y, fun sl hsl => ?_⟩
  rw [wordsS_cut]
  have f3 := f2'.trans (Kp.new (o := .lst ((wordsS mm long).map V.str)) hsl)
  refine ⟨sl, rfl, ⟨_, SqL.of upd_same⟩, fun D4 hD4 => ?_⟩
  refine comp_rl (ss := wordsS mm long) (ds := (wordsS mm long).map fun n => ((n, []) : Kd)) KindAt (fun t h => h.keepT t) (c := []) (SqL.of upd_same) (by rw [List.length_map]) (by rw [List.length_map, wl]; omega) hD4 ?_ ?_
  · intro i x d Hx Z hx hd f r
    rw [List.getElem?_map, hx] at hd
    cases hd
    refine ⟨_, rfl, Nat.zero_le _, fun et het => ⟨s1 (show (3 : Nat) ≤ 1000 by decide), fun kt hkt => ?_⟩⟩
    have k2 := (Kp.new (o := .tup [V.str x, .non, .ref et]) hkt)
    exact r kt _ ((Kp.new het).trans k2) ⟨et, [], upd_same, k2 _ _ upd_same, .nil⟩
  intro H4 ks1 f4 hD4x hA4
  have hD1z := f4 _ _ (f3 _ _ hD1x)
  refine ⟨_, rfl, _, rfl, D1, _, _, _, rfl, rfl, SqL.of hD1z, wordsS_last mm long, _, rfl, s1 (show (3 : Nat) ≤ 1000 by decide), fun lk hlk => ⟨s1 (show (1 : Nat) ≤ 1000 by decide), fun ll hll => ?_⟩⟩
  have g1 := Kp.new (o := .tup [V.str (wordS mm long), .non, .ref dt]) hlk
  have g2 := Kp.new (o := .lst [V.ref lk]) hll
  refine ⟨D4, ll, _, _, rfl, rfl, g2 _ _ (g1 _ _ hD4x), upd_same, s1 (by have := hA4.len; rw [List.length_map, wl] at this; rw [List.length_map]; show ks1.length + 1 ≤ 1000; omega), fun kl hkl => ?_⟩
  have g3 := Kp.new (o := .lst (ks1.map V.ref ++ [V.ref lk])) hkl
  have fdt : Kp (upd H2 dt (.tup (gs.map V.ref))) _ := ((((Kp.new (o := .lst ((wordsS mm long).map V.str)) hsl).trans f4).trans g1).trans g2).trans g3
  have hK : A2 (KindAt _) (ks1 ++ [lk]) ((wordsS mm long).map (fun n => ((n, []) : Kd)) ++ [(wordS mm long, (List.range deeds).map fun k => (wordS k 2, wordsS params 3, 0))]) :=
    (hA4.imp fun _ _ z => z.keep ((g1.trans g2).trans g3)).snoc ⟨dt, gs, g3 _ _ (g2 _ _ upd_same), fdt _ _ upd_same, hA2.imp fun _ _ z => z.keep ((Kp.new hdt).trans fdt)⟩
  have hD1w := g3 _ _ (g2 _ _ (g1 _ _ hD1z))
  have fH := (f1.trans (f2.trans (Kp.new (o := .tup (gs.map V.ref)) hdt))).trans fdt
  have hklx : upd (upd (upd H4 lk (.tup [V.str (wordS mm long), .non, .ref dt])) ll (.lst [V.ref lk])) kl (.lst (ks1.map V.ref ++ [V.ref lk])) kl = some (.lst ((ks1 ++ [lk]).map V.ref)) := by rw [upd_same, List.map_append]; rfl
  generalize upd (upd (upd H4 lk (.tup [V.str (wordS mm long), .non, .ref dt])) ll (.lst [V.ref lk])) kl (.lst (ks1.map V.ref ++ [V.ref lk])) = H5 at hK hD1w fH hklx ⊢
  clear g1 g2 g3 fdt hlk hll hkl hA4 f4 hD4x hD1z hD4 hA2 hD1y hsl f2' f3 f2 hdt hD2x hD1x
  refine ⟨Nat.zero_le _, fun p0 hp0 => ?_⟩
  refine ⟨_, rfl, _, rfl, by omega, by omega, ?_⟩
  refine for_range (lo := 0) (n := ((deep : Int)).toNat) (fun i σ Hx => (∃ (pi : Addr) (x : Option V), σ = [some (.int ((mm + 1 : Nat) : Int)), some (.int (deeds : Int)), some (.int (params : Int)), some (.int (late : Int)), some (.int (rows : Int)), some (.int (deep : Int)), some (.int (long : Int)), some (.ref D1), some (.ref dt), some (.ref kl), some (.ref pi), x, none] ∧ RowsAt Hx i 0 pi) ∧ Kp H5 Hx) ⟨⟨p0, _, rfl, ⟨[], upd_same, rfl, fun r hr => by simp at hr⟩⟩, Kp.new hp0⟩ ?_ ?_
  · rintro i σ Hx hi ⟨⟨pi, x, rfl, hR⟩, f⟩
    refine ⟨_, rfl, s1 (show (2 : Nat) ≤ 1000 by decide), fun qa hqa => ⟨s1 (show (1 : Nat) ≤ 1000 by decide), fun pa hpa => ?_⟩⟩
    have k1 := Kp.new (o := .tup [V.str "again", .ref pi]) hqa
    have k2 := Kp.new (o := .tup [V.ref qa]) hpa
    exact ⟨⟨pa, _, rfl, ⟨[], qa, pi, upd_same, rfl, fun r hr => by simp at hr, k2 _ _ upd_same, hR.keep (k1.trans k2)⟩⟩, (f.trans k1).trans k2⟩
  rintro σ H6 ⟨⟨pI, x, rfl, hR⟩, f6⟩
  obtain ⟨dd, rfl⟩ : ∃ dd, deep = dd + 1 := ⟨deep - 1, by omega⟩
  rw [show (((dd + 1 : Nat) : Int)).toNat = dd + 1 by omega] at hR
  obtain ⟨rs, qa, p', r1, r2, r3, r4, r5⟩ := hR
  cases rs with
  | cons => simp at r2
  | nil =>
  have r1 : H6 pI = some (.tup [V.ref qa]) := r1
  refine ⟨s1 (show (2 : Nat) ≤ 1000 by decide), fun sy hsy => ⟨s1 (show (1 : Nat) ≤ 1000 by decide), fun sL hsL => ?_⟩⟩
  have k1 := Kp.new (o := .tup [V.str "say", .str "zz"]) hsy
  have k2 := Kp.new (o := .lst [V.ref sy]) hsL
  refine ⟨_, rfl, _, rfl, pI, _, rfl, .inr (SqT.of (k2 _ _ (k1 _ _ r1))), _, _, rfl, rfl, ?_⟩
  have en : ((rows : Int) - (([V.ref qa].length : Nat) : Int)).toNat = rows - 1 := by show ((rows : Int) - ((1 : Nat) : Int)).toNat = rows - 1; omega
  refine ⟨sL, _, _, rfl, rfl, upd_same, ?_, ?_, ?_, fun rp hrp => ?_⟩
  · show -(2 ^ 63) ≤ (rows : Int) - ((1 : Nat) : Int); omega
  · show (rows : Int) - ((1 : Nat) : Int) < 2 ^ 63; omega
  · rw [en]; refine s1 ?_; show 1 * (rows - 1) ≤ 1000; omega
  rw [en, rep_flat]
  have k3 := Kp.new (o := .lst ((List.replicate (rows - 1) sy).map V.ref)) hrp
  refine ⟨rp, _, rfl, .inl ⟨SqL.of upd_same, fun tp htp => ?_⟩⟩
  have k4 := Kp.new (o := .tup ((List.replicate (rows - 1) sy).map V.ref)) htp
  have kk := ((k1.trans k2).trans k3).trans k4
  refine ⟨_, rfl, tp, pI, _, _, rfl, rfl, SqT.of upd_same, SqT.of (kk _ _ r1), ?_, ?_, fun z => (by cases z), fun _ mp hmp => ?_⟩
  · intro z
    have := congrArg List.length z
    rw [List.length_map, List.length_replicate] at this
    have h0 : rows - 1 = 0 := this
    omega
  · refine s1 ?_; rw [List.length_map, List.length_replicate]; show rows - 1 + 1 ≤ 1000; omega
  have k5 := Kp.new (o := .tup ((List.replicate (rows - 1) sy).map V.ref ++ [V.ref qa])) hmp
  have f7 := f6.trans (kk.trans k5)
  have hM : RowsAt (upd (upd (upd (upd (upd H6 sy (.tup [V.str "say", .str "zz"])) sL (.lst [V.ref sy])) rp (.lst ((List.replicate (rows - 1) sy).map V.ref))) tp (.tup ((List.replicate (rows - 1) sy).map V.ref))) mp (.tup ((List.replicate (rows - 1) sy).map V.ref ++ [V.ref qa]))) (dd + 1) (rows - 1) mp := by
    refine ⟨List.replicate (rows - 1) sy, qa, p', ?_, List.length_replicate, fun r hr => ?_, (kk.trans k5) _ _ r4, r5.keep (kk.trans k5)⟩
    · rw [upd_same, List.map_append]; rfl
    · rw [(List.mem_replicate.mp hr).2]
      exact k5 _ _ (k4 _ _ (k3 _ _ (k2 _ _ upd_same)))
  generalize upd (upd (upd (upd (upd H6 sy (.tup [V.str "say", .str "zz"])) sL (.lst [V.ref sy])) rp (.lst ((List.replicate (rows - 1) sy).map V.ref))) tp (.tup ((List.replicate (rows - 1) sy).map V.ref))) mp (.tup ((List.replicate (rows - 1) sy).map V.ref ++ [V.ref qa])) = H7 at f7 hM ⊢
  refine ⟨_, rfl, kl, _, rfl, .inl ⟨SqL.of (f7 _ _ hklx), fun kt hkt => ?_⟩⟩
  have m1 := Kp.new (o := .tup ((ks1 ++ [lk]).map V.ref)) hkt
  refine ⟨_, rfl, _, rfl, _, rfl, D1, _, rfl, SqL.of (m1 _ _ (f7 _ _ hD1w)), fun ns hns => ?_⟩
  rw [cut_to, ← List.map_take]
  have m2 := Kp.new (o := .lst (((wordsS (mm + 1) long).take late).map V.str)) hns
  refine ⟨ns, _, rfl, SqL.of upd_same, ?_, fun sl' ss' hsl' hp hs => ?_⟩
  · rw [List.length_take, wl]; omega
  have es : ss' = (wordsS (mm + 1) long).take late := sorted_eq ((wordsS_pw (mm + 1) long (by omega)).sublist (List.take_sublist _ _)) hs hp
  subst es
  have m3 := Kp.new (o := .lst (((wordsS (mm + 1) long).take late).map V.str)) hsl'
  refine ⟨sl', _, rfl, .inl ⟨SqL.of upd_same, fun lt hlt => ?_⟩⟩
  have m4 := Kp.new (o := .tup (((wordsS (mm + 1) long).take late).map V.str)) hlt
  refine ⟨_, rfl, s1 (show (3 : Nat) ≤ 1000 by decide), fun pp hpp => ?_⟩
  have m5 := Kp.new (o := .tup [V.ref kt, .ref lt, .ref mp]) hpp
  have mk := ((m2.trans m3).trans m4).trans m5
  exact q pp _ ((fH.trans f7).trans (m1.trans mk)) ⟨kt, lt, mp, ks1 ++ [lk], upd_same, mk _ _ upd_same, hK.imp fun _ _ z => z.keep (f7.trans (m1.trans mk)), m5 _ _ upd_same, hM.keep (m1.trans mk)⟩
end
end Gn
end
section
set_option Elab.async false
set_option linter.all false
set_option maxRecDepth 100000
namespace Gn
open PySem L2
abbrev sFull : Stmt := top 42
def lotsN (rows : Nat) : List Nat := List.replicate (rows / 20) 20 ++ [rows % 20]
def fullG (rows : Nat) : Pg := ([("kind", (lotsN rows).zipIdx.map fun z => (wordS z.2 2, [], z.1))], [], 0, 0)
inductive SpFull (vs : List V) (H : Hp) (Q : VK) : Prop
  | mk (rows : Nat) (h1 : vs = [.int (rows : Int)]) (h2 : rows ≤ 200) (h3 : ∀ (p : Addr) (H' : Hp), Kp H H' → ProgAt H' p (fullG rows) → Q (.ref p) H') : SpFull vs H Q
def spFull : Sp := fun vs H Q _ => SpFull vs H Q
theorem comp_re {α : Type} {K : PySem.W.Frag} {a D : Addr} {ns : List Nat} {ds : List α} (R : Hp → Addr → α → Prop) (kt : ∀ {H H' : Hp} {a x}, Tup H H' → R H a x → R H' a x) {x0 y0 : Option V} {c : List (Option V)} {te : TE} {H : Hp} {Q : Hp → Prop} (hx : SqL K H a (ns.map fun (n : Nat) => V.int (n : Int))) (hl0 : ds.length = ns.length) (hn : ds.length ≤ 1000) (hD : H D = none)
    (hs : ∀ (i n : Nat) d Hx (Z : V → Hp → Prop), ns[i]? = some n → ds[i]? = some d → Kp H Hx → (∀ g H4, Kp Hx H4 → R H4 g d → Z (.ref g) H4) → te (some (.int (i : Int)) :: some (.int (n : Int)) :: c) Hx Z)
    (hd : ∀ Hx gs, Kp H Hx → Hx D = some (.lst (gs.map V.ref)) → A2 (R Hx) gs ds → Q Hx) : CompW (Ite K a) (gTup K 2 (gCons (gName 0) (gCons (gName 1) gNil))) tAll te D (x0 :: y0 :: c) (upd H D (.lst [])) Q := by
  refine ⟨fun i m σ Hx => m = ns.length - i ∧ i ≤ ns.length ∧ (∃ x y, σ = x :: y :: c) ∧ Kp H Hx ∧ ∃ gs : List Addr, Hx D = some (.lst (gs.map V.ref)) ∧ A2 (R Hx) gs (ds.take i) ∧ gs.length = i, ⟨ns.length, by simp, Nat.zero_le _, ⟨_, _, rfl⟩, Kp.new hD, [], upd_same, .nil, rfl⟩, ?_⟩
  rintro i m σ Hx ⟨rfl, hi, ⟨x, y, rfl⟩, f, gs, hDx, hA, hl⟩
  have hxx := f.seq hx
  by_cases hlt : i < ns.length
  · have hn' : ns[i]? = some ns[i] := List.getElem?_eq_getElem hlt
    have hb : ds[i]? = some (ds[i]'(by omega)) := List.getElem?_eq_getElem (by omega)
    refine .inr ⟨⟨_, _, hxx, by rw [List.getElem?_map, hn']; rfl⟩, fun σ' Hx => (∃ x y, σ' = x :: y :: c) ∧ Kp H Hx ∧ ∃ gs : List Addr, Hx D = some (.lst (gs.map V.ref)) ∧ A2 (R Hx) gs (ds.take (i + 1)) ∧ gs.length = i + 1, fun σ' H' h => ⟨ns.length - (i + 1), by omega, rfl, hlt, h⟩, fun v H' yl => ?_⟩
    obtain ⟨p, y2, hp, rfl, rfl, yy⟩ := yl
    have e := yy _ hxx
    rw [List.getElem?_map, hn'] at e
    cases e
    refine ⟨p, _, rfl, SqT.of upd_same, rfl, _, _, rfl, _, _, rfl, rfl, ?_⟩
    have kp := Kp.new (o := .tup [V.int (i : Int), .int ((ns[i] : Nat) : Int)]) hp
    show te (some (.int (i : Int)) :: some (.int ((ns[i] : Nat) : Int)) :: c) _ _
    refine hs i ns[i] _ _ _ hn' hb (f.trans kp) fun g H4 f4 hR => ⟨_, f4 _ _ (kp _ _ hDx), small1000 (by rw [List.length_map]; omega), ⟨_, _, rfl⟩, (f.trans (kp.trans f4)).put hD, gs ++ [g], ?_, ?_, by rw [List.length_append, hl]; rfl⟩
    · rw [upd_same, List.map_append]; rfl
    · have t : Tup H4 (upd H4 D (.lst (gs.map V.ref ++ [V.ref g]))) := Tup.lst (f4 _ _ (kp _ _ hDx))
      rw [List.take_add_one, hb]
      exact (hA.imp fun _ _ z => kt ((kp.trans f4).tup.trans t) z).snoc (kt t hR)
  · have e : i = ns.length := by omega
    subst e
    rw [← hl0, List.take_of_length_le (Nat.le_refl _)] at hA
    exact .inl ⟨⟨_, hxx, by rw [List.length_map]; exact Nat.le_refl _⟩, hd Hx gs f hDx hA⟩
theorem rep_flatI (n : Nat) (a : Int) : (List.replicate n [V.int a]).flatten = List.replicate n (V.int a) := by
  induction n with
  | zero => rfl
  | succ n ih => rw [List.replicate_succ, List.flatten_cons, ih, List.replicate_succ]; rfl
section
variable {P : Program} {w : World} {K : PySem.W.Frag} {mg : Str → Option Value} {base : Heap} {f : Addr} {fd : FuncData}
theorem scFull : FnScope ["_law_rows", "_law_lots", "_law_deeds"] ["_law_rows"] (defScope sFull) := ⟨rfl, rfl, rfl, by decide +kernel, rfl, by decide +kernel, by decide +kernel⟩
set_option maxHeartbeats 1000000 in
theorem ok_full {k : Nat} (F : Fun K "_law_full" "_law_full" sFull f fd) (W : Cal P w K mg base k "_law_word" pLWord spLWord) (mt : mg "tuple" = none) (me : mg "enumerate" = none) : FnOk P w K mg base CX0 (k + 1) f fd ["_law_rows"] spFull := by
  obtain ⟨g, gd, GW, bW, kW, mW⟩ := W.ex
  refine F.ok scFull (fun vs H Q E h => ?_) (fun cdv A outer s H vs Q E hr h => ?_)
  · obtain ⟨rows, rfl, _⟩ := h
    rfl
  obtain ⟨rows, rfl, hrows, q⟩ := h
  have nd2 : (["_law_k", "_law_many"] : List Str).Nodup := by decide +kernel
  refine ⟨_, pss_cons (ps_set (i := 1) scFull.nd rfl (Or.inl rfl) (pe_op op_cat (pe_op op_rep (pe_lst (pa_cons pe_int pa_nil)) (pe_op op_fdiv (pv 0) pe_int)) (pe_lst (pa_cons (pe_op op_mod (pv 0) pe_int) pa_nil))))
    (pss_cons (ps_set (i := 2) scFull.nd rfl (Or.inl rfl) (pe_callTy call_tuple_of rfl mt (by decide +kernel) (pa_cons (pe_comp (N' := ["_law_k", "_law_many"]) (src := [none, none]) rfl ⟨rfl, by decide +kernel, by decide +kernel, rfl, rfl, rfl⟩
        (pi_enum rfl me (pa_cons (pv 1) pa_nil)) (g := gTup K 2 (gCons (gName 0) (gCons (gName 1) gNil))) (fun _ _ _ _ => pg_tup (n := 2) rfl (pgs_cons (pg_name (i := 0) nd2 rfl (Or.inl rfl) (Or.inr rfl)) (pgs_cons (pg_name (i := 1) nd2 rfl (Or.inl rfl) (Or.inr rfl)) pgs_nil))) (fun _ _ _ _ => pts_nil)
        (te := tTup (tCons (tCall spLWord [] E0 (tCons (tVar 0) (tCons (tC (.int 2)) tNil))) (tCons (tTup tNil) (tCons (tCB (rTupOf K) (tCons (tOp rRep (tLst (tCons (tTup (tCons (tC (.str "say")) (tCons (tC (.str "zz")) tNil))) tNil)) (tVar 1)) tNil)) (tCons (tC .non) tNil)))))
        (fun _ _ _ _ => pe_tup (pa_cons (pe_call GW hr rfl mW kW bW .nil pass0 (pa_cons (pv 0) (pa_cons pe_int pa_nil))) (pa_cons (pe_tup pa_nil) (pa_cons (pe_callTy call_tuple_of rfl mt (by decide +kernel) (pa_cons (pe_op op_rep (pe_lst (pa_cons (pe_tup (pa_cons pe_str (pa_cons pe_str pa_nil))) pa_nil)) (pv 1)) pa_nil)) (pa_cons pe_non pa_nil)))))) pa_nil)))
    (pss_one (ps_ret (pe_tup (pa_cons (pe_tup (pa_cons (pe_tup (pa_cons pe_str (pa_cons pe_non (pa_cons (pv 2) pa_nil)))) pa_nil)) (pa_cons (pe_tup pa_nil) (pa_cons (pe_tup pa_nil) pa_nil))))))), ?_⟩
  first | dsimp only [cxOf, Cx.nox] | skip
  have s1 : ∀ {n : Nat}, n ≤ 1000 → n ≤ sizeLine := fun h => Nat.le_of_lt (small1000 h)
  refine ⟨s1 (show (1 : Nat) ≤ 1000 by decide), fun l1 hl1 => ⟨_, rfl, _, _, rfl, rfl, ⟨by decide, by decide⟩, ?_⟩⟩
  have e1 : ((rows : Int) / 20).toNat = rows / 20 := by omega
  refine ⟨l1, _, _, rfl, rfl, upd_same, by omega, by omega, ?_, fun l2 hl2 => ?_⟩
  · rw [e1]; refine s1 ?_; show 1 * (rows / 20) ≤ 1000; omega
  rw [e1, rep_flatI]
  have k1 := (Kp.new (o := .lst [V.int 20]) hl1).trans (Kp.new (o := .lst (List.replicate (rows / 20) (V.int 20))) hl2)
  refine ⟨_, rfl, _, _, rfl, rfl, (show (0 : Int) < 20 by decide), s1 (show (1 : Nat) ≤ 1000 by decide), fun l3 hl3 => ?_⟩
  have k2 := Kp.new (o := .lst [V.int ((rows : Int) % 20)]) hl3
  refine ⟨l2, l3, _, _, rfl, rfl, k2 _ _ upd_same, upd_same, s1 (by rw [List.length_replicate]; show rows / 20 + 1 ≤ 1000; omega), fun l4 hl4 => ?_⟩
  have el : List.replicate (rows / 20) (V.int 20) ++ [V.int ((rows : Int) % 20)] = (lotsN rows).map fun (n : Nat) => V.int (n : Int) := by
    unfold lotsN
    rw [List.map_append, List.map_replicate]
    have : (rows : Int) % 20 = ((rows % 20 : Nat) : Int) := by omega
    rw [this]
    rfl
  rw [el]
  have k3 := (k1.trans k2).trans (Kp.new (o := .lst ((lotsN rows).map fun (n : Nat) => V.int (n : Int))) hl4)
  have hll : (lotsN rows).length ≤ 20 := by unfold lotsN; rw [List.length_append, List.length_replicate]; show rows / 20 + 1 ≤ 20; omega
  have hlb : ∀ n ∈ lotsN rows, n ≤ 20 := by
    unfold lotsN
    intro n hn
    rcases List.mem_append.mp hn with h | h
    · rw [(List.mem_replicate.mp h).2]; exact Nat.le_refl _
    · rw [List.mem_singleton.mp h]; omega
  have hA0 := (upd_same (H := upd (upd (upd H l1 (.lst [V.int 20])) l2 (.lst (List.replicate (rows / 20) (V.int 20)))) l3 (.lst [V.int ((rows : Int) % 20)])) (a := l4) (o := .lst ((lotsN rows).map fun (n : Nat) => V.int (n : Int))))
  refine ⟨_, rfl, l4, _, rfl, SqL.of hA0, fun D hD => ?_⟩
  refine comp_re (ds := (lotsN rows).zipIdx.map fun z => ((wordS z.2 2, [], z.1) : Dd)) DeedAt (fun t h => h.keepT t) (c := []) (SqL.of hA0) (by rw [List.length_map, List.length_zipIdx]) (by rw [List.length_map, List.length_zipIdx]; omega) hD ?_ ?_
  · intro i n d Hx Z hn hd f r
    have hi : i < (lotsN rows).length := (List.getElem?_eq_some_iff.mp hn).1
    rw [List.getElem?_map, List.getElem?_zipIdx, hn] at hd
    have hd : some ((wordS (0 + i) 2, [], n) : Dd) = some d := hd
    rw [Nat.zero_add] at hd
    cases hd
    have hnb := hlb n (List.mem_of_getElem? hn)
    refine ⟨_, rfl, i, 2, rfl, by omega, by decide, by decide, ?_⟩
    refine ⟨Nat.zero_le _, fun pt hpt => ?_⟩
    refine ⟨s1 (show (2 : Nat) ≤ 1000 by decide), fun sy hsy => ⟨s1 (show (1 : Nat) ≤ 1000 by decide), fun sL hsL => ?_⟩⟩
    refine ⟨_, rfl, sL, _, _, rfl, rfl, upd_same, by omega, by omega, ?_, fun rp hrp => ?_⟩
    · refine s1 ?_; show 1 * ((n : Int)).toNat ≤ 1000; omega
    rw [Int.toNat_natCast, rep_flat]
    refine ⟨rp, _, rfl, .inl ⟨SqL.of upd_same, fun rt hrt => ⟨s1 (show (4 : Nat) ≤ 1000 by decide), fun gt hgt => ?_⟩⟩⟩
    have j1 := Kp.new (o := .tup ([] : List V)) hpt
    have j2 := Kp.new (o := .tup [V.str "say", .str "zz"]) hsy
    have j3 := Kp.new (o := .lst [V.ref sy]) hsL
    have j4 := Kp.new (o := .lst ((List.replicate n sy).map V.ref)) hrp
    have j5 := Kp.new (o := .tup ((List.replicate n sy).map V.ref)) hrt
    have j6 := Kp.new (o := .tup [V.str (wordS i 2), .ref pt, .ref rt, .non]) hgt
    refine r gt _ (((((j1.trans j2).trans j3).trans j4).trans j5).trans j6) ⟨pt, rt, upd_same, ((((j2.trans j3).trans j4).trans j5).trans j6) _ _ upd_same, ⟨List.replicate n sy, j6 _ _ upd_same, List.length_replicate, fun r' hr' => ?_⟩⟩
    rw [(List.mem_replicate.mp hr').2]
    exact (((j3.trans j4).trans j5).trans j6) _ _ upd_same
  intro Hy gs fy hDy hA
  refine ⟨D, _, rfl, .inl ⟨SqL.of hDy, fun dt hdt => ?_⟩⟩
  refine ⟨_, rfl, s1 (show (3 : Nat) ≤ 1000 by decide), fun kd hkd => ⟨s1 (show (1 : Nat) ≤ 1000 by decide), fun kt hkt => ?_⟩⟩
  refine ⟨Nat.zero_le _, fun lt hlt => ⟨Nat.zero_le _, fun rt hrt => ⟨s1 (show (3 : Nat) ≤ 1000 by decide), fun pp hpp => ?_⟩⟩⟩
  have j1 := Kp.new (o := .tup (gs.map V.ref)) hdt
  have j2 := Kp.new (o := .tup [V.str "kind", .non, .ref dt]) hkd
  have j3 := Kp.new (o := .tup [V.ref kd]) hkt
  have j4 := Kp.new (o := .tup ([] : List V)) hlt
  have j5 := Kp.new (o := .tup ([] : List V)) hrt
  have j6 := Kp.new (o := .tup [V.ref kt, .ref lt, .ref rt]) hpp
  have jj := (((j3.trans j4).trans j5).trans j6)
  refine q pp _ (((k3.trans fy).trans j1).trans (j2.trans jj)) ⟨kt, lt, rt, [kd], upd_same, ((j4.trans j5).trans j6) _ _ upd_same, .cons ⟨dt, gs, jj _ _ upd_same, (j2.trans jj) _ _ upd_same, hA.imp fun _ _ z => z.keep (j1.trans (j2.trans jj))⟩ .nil, (j5.trans j6) _ _ upd_same, ⟨[], j6 _ _ upd_same, rfl, fun r hr => by simp at hr⟩⟩
end
end Gn
end
section
set_option Elab.async false
set_option linter.all false
set_option maxRecDepth 100000
namespace Gn
open PySem L2
def szN (i x : Nat) : List Nat :=
  let s := [3, 2, 2, 1, 4, 1, 4].set i (([12, 6, 4, 6, 20, 4, 8] : List Nat).getD i 0 - 2 + x)
  if i = 3 ∨ i = 0 then s.set 0 (max (s.getD 0 0) (s.getD 3 0)) else s
def pgN : List Nat → Pg
  | [a, b, c, d, e, f, g] => builtG a b c d e f g
  | _ => ([], [], 0, 0)
def dueN (s : List Nat) : Bool := ((s.zip [12, 6, 4, 6, 20, 4, 8]).map fun z => decide ((z.1 : Int) ≤ ((z.2 : Nat) : Int))).all id
instance : DecidablePred DOk := fun d => by unfold DOk; infer_instance
instance : DecidablePred DsOk := fun d => by unfold DsOk; infer_instance
instance : DecidablePred KOk := fun d => by unfold KOk; infer_instance
instance : DecidableRel leS := fun a b => by unfold leS; infer_instance
instance : DecidablePred LOk := fun d => by unfold LOk; infer_instance
instance : DecidablePred POk := fun d => by unfold POk; infer_instance
theorem built_ok : ∀ i, i < 7 → ∀ x, x < 5 → POk (pgN (szN i x)) ∧ progB (pgN (szN i x)) = dueN (szN i x) := by decide +kernel
theorem full_ok : ∀ x, x < 5 → POk (fullG (78 + x)) ∧ progB (fullG (78 + x)) = decide (((78 + x : Nat) : Int) ≤ 80) := by decide +kernel
theorem one_ok : POk ([("kind", [])], [], 0, 0) ∧ progB ([("kind", [])], [], 0, 0) = true := by decide +kernel
theorem none_ok : POk ([], [], 0, 0) ∧ progB ([], [], 0, 0) = false := by decide +kernel
end Gn
end
section
set_option Elab.async false
set_option linter.all false
set_option maxRecDepth 100000
namespace Gn
open PySem L2
abbrev sLaw : Stmt := top 43
inductive SpLaw (K : PySem.W.Frag) (vs : List V) (H : Hp) (Q : VK) : Prop
  | mk (a : Addr) (ns : List Int) (h1 : vs = [.ref a]) (h2 : SqL K H a (ns.map V.int)) (h3 : ns.length ≤ 63) (h4 : ∀ H', Q (.bl true) H') : SpLaw K vs H Q
def spLaw (K : PySem.W.Frag) : Sp := fun vs H Q _ => SpLaw K vs H Q
theorem st_tup {es l : List Expr} {k : Nat} {p : Pos} {env : Env} : starEach (.Tuple es k p :: l) env = (false, eval (.Tuple es k p) env) :: starEach l env := by rfl
theorem st_lst {es l : List Expr} {p : Pos} {env : Env} : starEach (.List es p :: l) env = (false, eval (.List es p) env) :: starEach l env := by rfl
theorem st_con {c : Const} {k : Nat} {l : List Expr} {p : Pos} {env : Env} : starEach (.Constant c k p :: l) env = (false, eval (.Constant c k p) env) :: starEach l env := by rfl
theorem st_dic {ks : List (Option Expr)} {vs l : List Expr} {p : Pos} {env : Env} : starEach (.Dict ks vs p :: l) env = (false, eval (.Dict ks vs p) env) :: starEach l env := by rfl
structure PA1 (X : Cx) (es : List Expr) (t : TA) : Prop where
  of : PA X es t
section
variable {X : Cx} {es l : List Expr} {t u : TA} {j : Nat} {pos : Pos}
theorem qa_nil : PA1 X [] tNil := ⟨pa_nil⟩
theorem qa_tup (h : PA1 X es t) (hr : PA1 X l u) : PA1 X (.Tuple es j pos :: l) (tCons (tTup t) u) := ⟨pa_cons (pe_tup h.of) hr.of st_tup⟩
theorem qa_lst (h : PA1 X es t) (hr : PA1 X l u) : PA1 X (.List es pos :: l) (tCons (tLst t) u) := ⟨pa_cons (pe_lst h.of) hr.of st_lst⟩
theorem qa_int {i : Int} (hr : PA1 X l u) : PA1 X (.Constant (.int i) j pos :: l) (tCons (tC (.int i)) u) := ⟨pa_cons pe_int hr.of st_con⟩
theorem qa_str {i : Str} (hr : PA1 X l u) : PA1 X (.Constant (.str i) j pos :: l) (tCons (tC (.str i)) u) := ⟨pa_cons pe_str hr.of st_con⟩
theorem qa_bl {i : Bool} (hr : PA1 X l u) : PA1 X (.Constant (.bool i) j pos :: l) (tCons (tC (.bl i)) u) := ⟨pa_cons pe_bl hr.of st_con⟩
theorem qa_non (hr : PA1 X l u) : PA1 X (.Constant .none j pos :: l) (tCons (tC .non) u) := ⟨pa_cons pe_non hr.of st_con⟩
theorem qa_dic (hr : PA1 X l u) : PA1 X (.Dict [] [] pos :: l) (tCons tDNewK u) := ⟨pa_cons pe_dnewK hr.of st_dic⟩
end
structure PS1 (X : Cx) (st : Stmt) (t : TS) : Prop where
  of : PS X st t
structure PSs1 (X : Cx) (st : List Stmt) (t : TS) : Prop where
  of : PSs X st t
structure PE1 (X : Cx) (e : Expr) (t : TE) : Prop where
  of : PE X e t
section
variable {X : Cx} {st : Stmt} {rest : List Stmt} {t u : TS} {pos : Pos} {e tg : Expr} {te : TE}
theorem qss_cons (h1 : PS1 X st t) (h2 : PSs1 X rest u) : PSs1 X (st :: rest) (tSeq t u) := ⟨pss_cons h1.of h2.of⟩
theorem qss_one (h1 : PS1 X st t) : PSs1 X [st] t := ⟨pss_one h1.of⟩
theorem qss_nil : PSs1 X [] tNext := ⟨pss_nil⟩
theorem qss_never {sts : List Stmt} : PSs1 X sts tNever := ⟨pss_never⟩
theorem qs_for {iter : Expr} {body : List Stmt} {wi : TI} {g : TG} {tb : TS} (hp : PassesOwn (model X.prog X.w) X.A X.env X.xe) (hc : X.calm = true) (hi : PI X tg iter wi) (hg : PG X tg g) (hb : PSs1 X body tb)
    (hs : ∀ x, foldedSetIterable iter X.env x = pure x := by intro _; rfl) : PS1 X (.For tg iter body [] pos) (tFor wi g tb) := ⟨ps_for hp hc hi hg hb.of hs⟩
theorem qs_forL {iter : Expr} {body : List Stmt} {g : TG} {tb : TS} (hp : PassesOwn (model X.prog X.w) X.A X.env X.xe) (hc : X.calm = true) (hi : PE1 X iter te) (hg : PG X tg g) (hb : PSs1 X body tb)
    (hs : ∀ x, foldedSetIterable iter X.env x = pure x := by intro _; rfl) : PS1 X (.For tg iter body [] pos) (tFor (iList X.K te) g tb) := ⟨ps_for hp hc (pi_list hi.of) hg hb.of hs⟩
theorem qs_set {i : Nat} {x : Str} {pos' : Pos} (hN : X.N.Nodup) (hi : X.N[i]? = some x) (hx : Loc X.env.scope x) (he : PE X e te) (hs : swapsWith e (some (.Name x pos')) pos.line X.env = pure false := by rfl) (hf : X.fn x = true ∨ X.env.scope.names.lookup x = some .local := by first | exact .inl rfl | exact .inr rfl | assumption) :
    PS1 X (.Assign [.Name x pos'] e pos) (tAsg te (gName i)) := ⟨ps_set hN hi hx he hs hf⟩
theorem qs_setL {i : Nat} {x : Str} {pos' : Pos} (hN : X.N.Nodup) (hi : X.N[i]? = some x) (hx : Loc X.env.scope x) (he : PE1 X e te) (hs : swapsWith e (some (.Name x pos')) pos.line X.env = pure false := by rfl) (hf : X.fn x = true ∨ X.env.scope.names.lookup x = some .local := by first | exact .inl rfl | exact .inr rfl | assumption) :
    PS1 X (.Assign [.Name x pos'] e pos) (tAsg te (gName i)) := ⟨ps_set hN hi hx he.of hs hf⟩
theorem qs_asg {g : TG} (he : PE X e te) (hg : PG X tg g) (hs : swapsWithSole [tg] e pos.line X.env = pure false := by rfl) (hw : swappedStores [tg] e X.env = pure none := by rfl) (h1 : (assignEach [tg] X.env).map (·.2) = [assign tg X.env] := by rfl) : PS1 X (.Assign [tg] e pos) (tAsg te g) := ⟨ps_asg he hg hs hw h1⟩
theorem qs_if {c : Expr} {a b : List Stmt} {tc : TT} (hc : PT X c tc) (ha : PSs1 X a t) (hb : PSs1 X b u) : PS1 X (.If c a b pos) (tIfS tc t u) := ⟨ps_if hc ha.of hb.of⟩
theorem qs_ret (he : PE X e te) : PS1 X (.Return (some e) pos) (tRet te) := ⟨ps_ret he⟩
theorem qe_lst {es : List Expr} {ta : TA} (h : PA1 X es ta) : PE1 X (.List es pos) (tLst ta) := ⟨pe_lst h.of⟩
end
def tOdd : TE := tLst (tCons (tC .non) (tCons (tC (.int 0)) (tCons (tC (.bl true)) (tCons (tC (.str "")) (tCons (tC (.str "kind")) (tCons (tTup tNil) (tCons (tTup (tCons (tTup tNil) (tCons (tTup tNil) (tCons (tTup tNil) tNil)))) (tCons (tLst tNil) (tCons tDNewK (tCons (tTup (tCons (tTup (tCons (tTup (tCons (tC (.str "kind")) (tCons (tC .non) (tCons (tTup tNil) tNil)))) tNil)) (tCons (tTup tNil) tNil))) (tCons (tTup (tCons (tC .non) (tCons (tTup tNil) (tCons (tTup tNil) tNil)))) tNil)))))))))))
theorem qe_odd {X : Cx} {j1 j2 j3 j4 j5 k1 k2 k3 k4 k5 k6 k7 k8 k9 k10 k11 k12 k13 j6 j7 j8 : Nat} {p1 p2 p3 p4 p5 p6 p7 p8 p9 p10 p11 p12 p13 p14 p15 p16 p17 p18 p19 p20 p21 p22 p23 p24 : Pos} :
    PE1 X (.List [.Constant .none j1 p1, .Constant (.int 0) j2 p2, .Constant (.bool true) j3 p3, .Constant (.str "") j4 p4, .Constant (.str "kind") j5 p5, .Tuple [] k1 p6, .Tuple [.Tuple [] k2 p7, .Tuple [] k3 p8, .Tuple [] k4 p9] k5 p10, .List [] p11, .Dict [] [] p12,
      .Tuple [.Tuple [.Tuple [.Constant (.str "kind") j6 p13, .Constant .none j7 p14, .Tuple [] k6 p15] k7 p16] k8 p17, .Tuple [] k9 p18] k10 p19, .Tuple [.Constant .none j8 p20, .Tuple [] k11 p21, .Tuple [] k12 p22] k13 p23] p24) tOdd := by
  unfold tOdd
  refine qe_lst ?_
  refine qa_non ?_
  refine qa_int ?_
  refine qa_bl ?_
  refine qa_str ?_
  refine qa_str ?_
  refine qa_tup qa_nil ?_
  refine qa_tup ?_ ?_
  · exact qa_tup qa_nil (qa_tup qa_nil (qa_tup qa_nil qa_nil))
  refine qa_lst qa_nil ?_
  refine qa_dic ?_
  refine qa_tup ?_ ?_
  · refine qa_tup ?_ ?_
    · refine qa_tup ?_ qa_nil
      refine qa_str ?_
      refine qa_non ?_
      exact qa_tup qa_nil qa_nil
    · exact qa_tup qa_nil qa_nil
  refine qa_tup ?_ qa_nil
  refine qa_non ?_
  exact qa_tup qa_nil (qa_tup qa_nil qa_nil)
def tOne : TE := tTup (tCons (tTup (tCons (tTup (tCons (tC (.str "kind")) (tCons (tC .non) (tCons (tTup tNil) tNil)))) tNil)) (tCons (tTup tNil) (tCons (tTup tNil) tNil)))
theorem pe_one1 {X : Cx} {j6 j7 k6 k7 k8 k9 k10 k11 : Nat} {p13 p14 p15 p16 p17 p18 p19 p20 : Pos} : PE X (.Tuple [.Tuple [.Tuple [.Constant (.str "kind") j6 p13, .Constant .none j7 p14, .Tuple [] k6 p15] k7 p16] k8 p17, .Tuple [] k9 p18, .Tuple [] k10 p19] k11 p20) tOne := by
  unfold tOne
  refine pe_tup (PA1.of ?_)
  refine qa_tup ?_ ?_
  · refine qa_tup ?_ qa_nil
    refine qa_str ?_
    refine qa_non ?_
    exact qa_tup qa_nil qa_nil
  exact qa_tup qa_nil (qa_tup qa_nil qa_nil)
def t7 (a b c d e f g : Int) : TE := tLst (tCons (tC (.int a)) (tCons (tC (.int b)) (tCons (tC (.int c)) (tCons (tC (.int d)) (tCons (tC (.int e)) (tCons (tC (.int f)) (tCons (tC (.int g)) tNil)))))))
theorem qe_7 {X : Cx} {a b c d e f g : Int} {j1 j2 j3 j4 j5 j6 j7 : Nat} {p1 p2 p3 p4 p5 p6 p7 p8 : Pos} : PE1 X (.List [.Constant (.int a) j1 p1, .Constant (.int b) j2 p2, .Constant (.int c) j3 p3, .Constant (.int d) j4 p4, .Constant (.int e) j5 p5, .Constant (.int f) j6 p6, .Constant (.int g) j7 p7] p8) (t7 a b c d e f g) := by
  unfold t7
  refine qe_lst ?_
  refine qa_int ?_
  refine qa_int ?_
  refine qa_int ?_
  refine qa_int ?_
  refine qa_int ?_
  refine qa_int ?_
  refine qa_int ?_
  exact qa_nil
theorem comp_zb {K : PySem.W.Frag} {a b D : Addr} {xs ys : List V} {bs : List Bool} {x0 y0 : Option V} {c : List (Option V)} {te : TE} {H : Hp} {Q : Hp → Prop} (ha : SqL K H a xs) (hb : SqL K H b ys) (l1 : bs.length = xs.length) (l2 : ys.length = xs.length) (hn : xs.length ≤ 1000) (hD : H D = none)
    (hs : ∀ (i : Nat) x y z Hx (R : V → Hp → Prop), xs[i]? = some x → ys[i]? = some y → bs[i]? = some z → Kp H Hx → (∀ H4, Kp Hx H4 → R (.bl z) H4) → te (some x :: some y :: c) Hx R)
    (hd : ∀ Hx, Kp H Hx → Hx D = some (.lst (bs.map V.bl)) → Q Hx) : CompW (Itz K false false a b) (gTup K 2 (gCons (gName 0) (gCons (gName 1) gNil))) tAll te D (x0 :: y0 :: c) (upd H D (.lst [])) Q := by
  refine ⟨fun i m σ Hx => m = xs.length - i ∧ i ≤ xs.length ∧ (∃ x y, σ = x :: y :: c) ∧ Kp H Hx ∧ Hx D = some (.lst ((bs.take i).map V.bl)), ⟨xs.length, by simp, Nat.zero_le _, ⟨_, _, rfl⟩, Kp.new hD, upd_same⟩, ?_⟩
  rintro i m σ Hx ⟨rfl, hi, ⟨x, y, rfl⟩, f, hDx⟩
  have hax : SqB K false Hx a xs := f.seq ha
  have hbx : SqB K false Hx b ys := f.seq hb
  by_cases hlt : i < xs.length
  · have h1 : xs[i]? = some xs[i] := List.getElem?_eq_getElem hlt
    have h2 : ys[i]? = some (ys[i]'(by omega)) := List.getElem?_eq_getElem (by omega)
    have h3 : bs[i]? = some (bs[i]'(by omega)) := List.getElem?_eq_getElem (by omega)
    refine .inr ⟨⟨_, _, _, _, hax, hbx, h1, h2⟩, fun σ' Hx => (∃ x y, σ' = x :: y :: c) ∧ Kp H Hx ∧ Hx D = some (.lst ((bs.take (i + 1)).map V.bl)), fun σ' H' h => ⟨xs.length - (i + 1), by omega, rfl, hlt, h⟩, fun v H' yl => ?_⟩
    obtain ⟨T, x', y', hT, rfl, rfl, y1, y2⟩ := yl
    have e1 := y1 _ hax
    rw [h1] at e1
    have e2 := y2 _ hbx
    rw [h2] at e2
    have e1' : xs[i] = x' := Option.some.inj e1
    have e2' : ys[i]'(by omega) = y' := Option.some.inj e2
    subst e1'
    subst e2'
    refine ⟨T, _, rfl, SqT.of upd_same, rfl, _, _, rfl, _, _, rfl, rfl, ?_⟩
    have kp := Kp.new (o := .tup [xs[i], ys[i]'(by omega)]) hT
    show te (some xs[i] :: some (ys[i]'(by omega)) :: c) _ _
    refine hs i _ _ _ _ _ h1 h2 h3 (f.trans kp) fun H4 f4 => ⟨_, f4 _ _ (kp _ _ hDx), small1000 (by rw [List.length_map, List.length_take]; omega), ⟨_, _, rfl⟩, (f.trans (kp.trans f4)).put hD, ?_⟩
    rw [upd_same, List.take_add_one, h3, List.map_append]
    rfl
  · have e : i = xs.length := by omega
    subst e
    rw [← l1, List.take_of_length_le (Nat.le_refl _)] at hDx
    exact .inl ⟨⟨_, _, hax, hbx, .inl (Nat.le_refl _)⟩, hd Hx f hDx⟩
abbrev iv (l : List Nat) : List V := l.map fun (n : Nat) => V.int (n : Int)
def s1N (i x : Nat) : List Nat := [3, 2, 2, 1, 4, 1, 4].set i (([12, 6, 4, 6, 20, 4, 8] : List Nat).getD i 0 - 2 + x)
theorem n1 : ∀ i, i < 7 → atI (iv [12, 6, 4, 6, 20, 4, 8]) ((i : Nat) : Int) = some (.int ((([12, 6, 4, 6, 20, 4, 8] : List Nat).getD i 0 : Nat) : Int)) := by decide +kernel
theorem n2 : ∀ i, i < 7 → ∀ x, x < 5 → (iv [3, 2, 2, 1, 4, 1, 4]).set i (.int (((([12, 6, 4, 6, 20, 4, 8] : List Nat).getD i 0 : Nat) : Int) - 2 + ((x : Nat) : Int))) = iv (s1N i x) := by decide +kernel
theorem n3 : ∀ i, i < 7 → ∀ x, x < 5 → atI (iv (s1N i x)) 0 = some (.int (((s1N i x).getD 0 0 : Nat) : Int)) ∧ atI (iv (s1N i x)) 3 = some (.int (((s1N i x).getD 3 0 : Nat) : Int)) := by decide +kernel
theorem n4 : ∀ i, i < 7 → ∀ x, x < 5 → (i = 3 ∨ i = 0) → (iv (s1N i x)).set 0 (.int (if (((s1N i x).getD 3 0 : Nat) : Int) > (((s1N i x).getD 0 0 : Nat) : Int) then (((s1N i x).getD 3 0 : Nat) : Int) else (((s1N i x).getD 0 0 : Nat) : Int))) = iv (szN i x) := by decide +kernel
theorem n5 : ∀ i, i < 7 → ∀ x, x < 5 → ¬ (i = 3 ∨ i = 0) → s1N i x = szN i x := by decide +kernel
def bndB : List Nat → Bool
  | [a, b, c, d, e, f, g] => decide ((1 ≤ a ∧ a ≤ 20) ∧ b ≤ 20 ∧ c ≤ 20 ∧ d ≤ 20 ∧ (2 ≤ e ∧ e ≤ 50) ∧ (1 ≤ f ∧ f ≤ 20) ∧ (2 ≤ g ∧ g ≤ 20))
  | _ => false
theorem n6 : ∀ i, i < 7 → ∀ x, x < 5 → bndB (szN i x) = true := by decide +kernel
theorem bnd7 : ∀ l : List Nat, bndB l = true → ∃ a b c d e f g, l = [a, b, c, d, e, f, g] ∧ ((1 ≤ a ∧ a ≤ 20) ∧ b ≤ 20 ∧ c ≤ 20 ∧ d ≤ 20 ∧ (2 ≤ e ∧ e ≤ 50) ∧ (1 ≤ f ∧ f ≤ 20) ∧ (2 ≤ g ∧ g ≤ 20)) := by
  intro l h
  unfold bndB at h
  split at h
  · exact ⟨_, _, _, _, _, _, _, rfl, of_decide_eq_true h⟩
  · cases h
structure HS (H0 : Hp) (hd ul gl : Addr) (Hx : Hp) (t : Int) : Prop where
  kp : Kp H0 Hx
  hand : ∃ d m, Hand Hx hd d m t 0
  us : Hx ul = some (.lst (iv [3, 2, 2, 1, 4, 1, 4]))
  gr : Hx gl = some (.lst (iv [12, 6, 4, 6, 20, 4, 8]))
theorem HS.keep {H0 : Hp} {hd ul gl : Addr} {Hx Hy : Hp} {t : Int} (h : HS H0 hd ul gl Hx t) (f : Kp Hx Hy) : HS H0 hd ul gl Hy t := by
  obtain ⟨k, ⟨d, m, hh⟩, u, g⟩ := h
  exact ⟨k.trans f, ⟨d, m, f _ _ hh.1, hh.2⟩, f _ _ u, f _ _ g⟩
theorem HS.take {H0 : Hp} {hd ul gl : Addr} {Hx : Hp} {t t' d' m' : Int} (h : HS H0 hd ul gl Hx t) (h0 : H0 hd = none) (ok : HandOk d' m' t') : HS H0 hd ul gl (upd Hx hd (hl d' m' t' 0)) t' := by
  obtain ⟨k, ⟨d, m, hh⟩, u, g⟩ := h
  have e1 : ul ≠ hd := fun z => by rw [z, hh.1] at u; exact absurd u (by intro z; cases z)
  have e2 : gl ≠ hd := fun z => by rw [z, hh.1] at g; exact absurd g (by intro z; cases z)
  exact ⟨k.put h0, ⟨d', m', Hand.at ok⟩, by rw [upd_ne e1]; exact u, by rw [upd_ne e2]; exact g⟩
theorem HS.put {H0 : Hp} {hd ul gl sz : Addr} {Hx : Hp} {t : Int} {o : HO} (h : HS H0 hd ul gl Hx t) (h0 : H0 sz = none) (e0 : hd ≠ sz) (e1 : ul ≠ sz) (e2 : gl ≠ sz) : HS H0 hd ul gl (upd Hx sz o) t := by
  obtain ⟨k, ⟨d, m, hh⟩, u, g⟩ := h
  exact ⟨k.put h0, ⟨d, m, by rw [upd_ne e0]; exact hh.1, hh.2⟩, by rw [upd_ne e1]; exact u, by rw [upd_ne e2]; exact g⟩
theorem n0 : ∀ i, i < 7 → ixN 7 ((i : Nat) : Int) = some i := by decide +kernel
theorem iv_len (l : List Nat) : (iv l).length = l.length := List.length_map _
theorem n7 : ∀ i, i < 7 → ∀ x, x < 5 → (iv (s1N i x)).length = 7 := by decide +kernel
theorem if_step {K : PySem.W.Frag} {H H5 : Hp} {hd ul gl sz : Addr} {t : Int} {ia ix : Nat} {D : Ends} {σ : St} (hia : ia < 7) (hix : ix < 5) (e6 : σ[6]? = some (some (.int (ia : Int)))) (e7 : σ[7]? = some (some (.ref sz))) (hs : HS H hd ul gl H5 t) (hz : H5 sz = some (.lst (iv (s1N ia ix)))) (h0 : H sz = none) (m1 : hd ≠ sz) (m2 : ul ≠ sz) (m3 : gl ≠ sz)
    (h : ∀ H6, HS H hd ul gl H6 t → H6 sz = some (.lst (iv (szN ia ix))) → D.nx σ H6) :
    tIfS (tOr (tTest (tOp rEq (tVar 6) (tC (.int 3)))) (tTest (tOp rEq (tVar 6) (tC (.int 0))))) (tAsg (tCB (fun xs H Q => ∃ i j, xs = [.int i, .int j] ∧ Q (.int (if j > i then j else i)) H) (tCons (tOp (rIxL K) (tVar 7) (tC (.int 0))) (tCons (tOp (rIxL K) (tVar 7) (tC (.int 3))) tNil))) (gSub (tVar 7) (tC (.int 0)) rSetL)) tNext D σ H5 := by
  have go : (ia = 3 ∨ ia = 0) → tAsg (tCB (fun xs H Q => ∃ i j, xs = [.int i, .int j] ∧ Q (.int (if j > i then j else i)) H) (tCons (tOp (rIxL K) (tVar 7) (tC (.int 0))) (tCons (tOp (rIxL K) (tVar 7) (tC (.int 3))) tNil))) (gSub (tVar 7) (tC (.int 0)) rSetL) D σ H5 := fun c => by
    obtain ⟨q0, q3⟩ := n3 ia hia ix hix
    refine ⟨_, e7, sz, _, 0, _, rfl, rfl, SqL.of hz, q0, _, e7, sz, _, 3, _, rfl, rfl, SqL.of hz, q3, _, _, rfl, ?_⟩
    refine ⟨_, e7, sz, _, 0, 0, rfl, rfl, hz, by rw [n7 ia hia ix hix]; rfl, ?_⟩
    rw [n4 ia hia ix hix c]
    exact h _ (hs.put h0 m1 m2 m3) upd_same
  refine ⟨_, e6, rfl, _, rfl, ?_⟩
  rw [iE]
  refine ite2 (fun c => ?_) (fun c => ?_)
  · exact go (.inl (by have := of_decide_eq_true c; omega))
  · have c' : ¬ (ia : Int) = 3 := fun z => c (decide_eq_true z)
    refine ⟨_, e6, rfl, _, rfl, ?_⟩
    rw [iE]
    refine ite2 (fun c2 => ?_) (fun c2 => ?_)
    · exact go (.inr (by have := of_decide_eq_true c2; omega))
    · have c2' : ¬ (ia : Int) = 0 := fun z => c2 (decide_eq_true z)
      have e := n5 ia hia ix hix (by omega)
      rw [e] at hz
      exact h _ hs hz
def Odd (K : PySem.W.Frag) (H : Hp) (v : V) : Prop := ∀ Hx (Q : VK), Kp H Hx → (∀ H', Kp Hx H' → Q (.bl false) H') → SpIsP K [v] Hx Q
theorem blE (b : Bool) : (!decide (V.bl b = V.bl b)) = false := by rw [decide_eq_true rfl]; rfl
inductive LawI (H : Hp) (a : Addr) (i : Nat) (σ : St) (Hx : Hp) : Prop
  | mk (x1 x2 x3 x4 x5 x6 x7 x8 x9 x10 x11 x12 x13 x14 x15 x16 x17 : Option V) (h1 : σ = [some (.ref a), x1, x2, x3, x4, x5, x6, x7, x8, x9, x10, x11, x12, x13, x14, x15, x16, x17]) (h2 : Kp H Hx) : LawI H a i σ Hx
inductive TuI (H0 : Hp) (a hd ul gl : Addr) (kx : V) (i : Nat) (σ : St) (Hx : Hp) : Prop
  | mk (t : Int) (x5 x6 x7 x8 x9 x10 x11 x12 x13 x14 x15 x16 x17 : Option V) (h1 : σ = [some (.ref a), some kx, some (.ref hd), some (.ref ul), some (.ref gl), x5, x6, x7, x8, x9, x10, x11, x12, x13, x14, x15, x16, x17]) (hs : HS H0 hd ul gl Hx t) (ht : t ≤ 2 * (i : Int)) : TuI H0 a hd ul gl kx i σ Hx
section
variable {P : Program} {w : World} {K : PySem.W.Frag} {mg : Str → Option Value} {base : Heap} {f : Addr} {fd : FuncData}
theorem kit_nt : PySem.W.kitOne K (.type "NoneType") (.type "tuple") = some false := by first | rfl | decide +kernel
theorem kit_bt : PySem.W.kitOne K (.type "bool") (.type "tuple") = some false := by first | rfl | decide +kernel
theorem kit_lt : PySem.W.kitOne K (.type "list") (.type "tuple") = some false := by first | rfl | decide +kernel
theorem kit_dt : PySem.W.kitOne K (.type "dict") (.type "tuple") = some false := by first | rfl | decide +kernel
theorem kit_bb : PySem.W.kitOne K (.type "bool") (.type "bool") = some true := rfl
abbrev nLaw : List Str := ["_law_script", "_law_k", "_law_hand_here", "_law_usual", "_law_greatest", "_law_turn", "_law_at", "_law_sizes", "_law_many", "_law_deeds", "_law_params", "_law_late", "_law_rows", "_law_deep", "_law_long", "_law_found", "_law_due", "_law_thing"]
theorem scLaw : FnScope nLaw ["_law_script"] (defScope sLaw) := ⟨rfl, rfl, rfl, by decide +kernel, rfl, by decide +kernel, by decide +kernel⟩
set_option maxHeartbeats 8000000 in
theorem ok_law {k : Nat} (F : Fun K "law" "law" sLaw f fd) (HN : Cal P w K mg base k "_law_hand" ["_law_script", "_law_k"] (spHand K)) (TK : Cal P w K mg base k "_law_take" ["_law_hand_here", "_law_many"] spTake) (BU : Cal P w K mg base k "_law_built" pBuilt spBuilt) (FU : Cal P w K mg base k "_law_full" ["_law_rows"] spFull) (IP : Cal P w K mg base k "is_program" ["thing"] (spIsP K))
    (ml : mg "len" = none) (mr : mg "range" = none) (mx : mg "max" = none) (mn : mg "min" = none) (mli : mg "list" = none) (mall : mg "all" = none) (mz : mg "zip" = none) (mi : mg "isinstance" = none) (mb : mg "bool" = none) : FnOk P w K mg base CX0 (k + 1) f fd ["_law_script"] (spLaw K) := by
  obtain ⟨g, gd, GH, bH, kH, mH⟩ := HN.ex
  obtain ⟨g2, gd2, GT, bT, kT, mT⟩ := TK.ex
  obtain ⟨g3, gd3, GB, bB, kB, mB⟩ := BU.ex
  obtain ⟨g4, gd4, GF, bF, kF, mF⟩ := FU.ex
  obtain ⟨g5, gd5, GI, bI, kI, mI⟩ := IP.ex
  refine F.ok scLaw (fun vs H Q E h => ?_) (fun cdv A outer s H vs Q E hr h => ?_)
  · obtain ⟨a, ns, rfl, _⟩ := h
    rfl
  obtain ⟨a, ns, rfl, hS, h63, q⟩ := h
  have nd2 : (["_law_one", "_law_most"] : List Str).Nodup := by decide +kernel
  refine ⟨_, PSs1.of (qss_cons (qs_for PassesOwn.never rfl (pi_range1 rfl mr (pa_cons (pe_callB (call_max2 rfl) rfl mx (by decide +kernel) (pa_cons pe_int (pa_cons (pe_callB (call_min2 rfl) rfl mn (by decide +kernel) (pa_cons (pe_callB call_len_seq rfl ml PySem.boot_len (pa_cons (pv 0) pa_nil)) (pa_cons pe_int pa_nil))) pa_nil))) pa_nil)) (pg_name (i := 1) scLaw.nd rfl (Or.inl rfl))
      (qss_cons (qs_set (i := 2) scLaw.nd rfl (Or.inl rfl) (pe_call GH hr rfl mH kH bH .nil pass0 (pa_cons (pv 0) (pa_cons (pv 1) pa_nil))))
      (qss_cons (qs_setL (i := 3) scLaw.nd rfl (Or.inl rfl) qe_7)
      (qss_cons (qs_setL (i := 4) scLaw.nd rfl (Or.inl rfl) qe_7)
      (qss_cons (qs_for PassesOwn.never rfl (pi_range1 rfl mr (pa_cons pe_int pa_nil)) (pg_name (i := 5) scLaw.nd rfl (Or.inl rfl))
        (qss_cons (qs_set (i := 6) scLaw.nd rfl (Or.inl rfl) (pe_call GT hr rfl mT kT bT .nil pass0 (pa_cons (pv 2) (pa_cons pe_int pa_nil))))
        (qss_cons (qs_set (i := 7) scLaw.nd rfl (Or.inl rfl) (pe_callTy call_list_of rfl mli (by decide +kernel) (pa_cons (pv 3) pa_nil)))
        (qss_cons (qs_asg (pe_op op_add (pe_op op_sub (eI (pv 4) (pv 6)) pe_int) (pe_call GT hr rfl mT kT bT .nil pass0 (pa_cons (pv 2) (pa_cons pe_int pa_nil)))) (pg_sub (pv 7) (pv 6) set_list))
        (qss_cons (qs_if (PW.pt (pw_or (pt_cmpR op_eq (pv 6) pe_int (nomark _)) (pw_or1 (pt_cmpR op_eq (pv 6) pe_int (nomark _))))) (qss_one (qs_asg (pe_callB (call_max2 rfl) rfl mx (by decide +kernel) (pa_cons (eI (pv 7) pe_int) (pa_cons (eI (pv 7) pe_int) pa_nil))) (pg_sub (pv 7) pe_int set_list))) qss_nil)
        (qss_cons (qs_asg (pv 7) (pg_lst (n := 7) rfl (pgs_cons (pg_name (i := 8) scLaw.nd rfl (Or.inl rfl)) (pgs_cons (pg_name (i := 9) scLaw.nd rfl (Or.inl rfl)) (pgs_cons (pg_name (i := 10) scLaw.nd rfl (Or.inl rfl)) (pgs_cons (pg_name (i := 11) scLaw.nd rfl (Or.inl rfl)) (pgs_cons (pg_name (i := 12) scLaw.nd rfl (Or.inl rfl)) (pgs_cons (pg_name (i := 13) scLaw.nd rfl (Or.inl rfl)) (pgs_cons (pg_name (i := 14) scLaw.nd rfl (Or.inl rfl)) pgs_nil)))))))))
        (qss_cons (qs_set (i := 15) scLaw.nd rfl (Or.inl rfl) (pe_call GI hr rfl mI kI bI .nil pass0 (pa_cons (pe_call GB hr rfl mB kB bB .nil pass0 (pa_cons (pv 8) (pa_cons (pv 9) (pa_cons (pv 10) (pa_cons (pv 11) (pa_cons (pv 12) (pa_cons (pv 13) (pa_cons (pv 14) pa_nil)))))))) pa_nil)))
        (qss_cons (qs_set (i := 16) scLaw.nd rfl (Or.inl rfl) (pe_callB (call_all rfl) rfl mall (by decide +kernel) (pa_cons (pe_comp (N' := ["_law_one", "_law_most"]) (src := [none, none]) rfl ⟨rfl, by decide +kernel, by decide +kernel, rfl, rfl, rfl⟩
            (pi_zip (p := false) rfl mz (pa_cons (pv 7) (pa_cons (pv 4) pa_nil)))
            (g := gTup K 2 (gCons (gName 0) (gCons (gName 1) gNil))) (fun _ _ _ _ => pg_tup (n := 2) rfl (pgs_cons (pg_name (i := 0) nd2 rfl (Or.inl rfl) (Or.inr rfl)) (pgs_cons (pg_name (i := 1) nd2 rfl (Or.inl rfl) (Or.inr rfl)) pgs_nil)))
            (fun _ _ _ _ => pts_nil) (te := tOp (rI0 fun i j => .bl (decide (i ≤ j))) (tVar 0) (tVar 1)) (fun _ _ _ _ => pe_cmpR op_le (pv 0) (pv 1) (nomark _))) pa_nil)))
        (qss_one (qs_if (PW.pt (pw_or (pt_not (pt_val (pe_callB call_isinst rfl mi (by decide +kernel) (pa_cons (pv 15) (pa_cons (pe_bltn (v := .ty "bool") rfl mb (by decide +kernel) rfl) pa_nil))))) (pw_or1 (pt_cmpR op_ne (pv 15) (pv 16) (nomark _))))) qss_never qss_nil))))))))))
      (qss_cons (qs_set (i := 12) scLaw.nd rfl (Or.inl rfl) (pe_op op_add pe_int (pe_call GT hr rfl mT kT bT .nil pass0 (pa_cons (pv 2) (pa_cons pe_int pa_nil)))))
      (qss_cons (qs_set (i := 15) scLaw.nd rfl (Or.inl rfl) (pe_call GI hr rfl mI kI bI .nil pass0 (pa_cons (pe_call GF hr rfl mF kF bF .nil pass0 (pa_cons (pv 12) pa_nil)) pa_nil)))
      (qss_cons (qs_if (PW.pt (pw_or (pt_not (pt_val (pe_callB call_isinst rfl mi (by decide +kernel) (pa_cons (pv 15) (pa_cons (pe_bltn (v := .ty "bool") rfl mb (by decide +kernel) rfl) pa_nil))))) (pw_or1 (pt_cmpR op_ne (pv 15) (pe_cmpR op_le (pv 12) pe_int (nomark _)) (nomark _))))) qss_never qss_nil)
      (qss_one (qs_forL PassesOwn.never rfl qe_odd (pg_name (i := 17) scLaw.nd rfl (Or.inl rfl))
        (qss_one (qs_if (pt_cmpR op_isntB (pe_call GI hr rfl mI kI bI .nil pass0 (pa_cons (pv 17) pa_nil)) pe_bl (nomark _)) qss_never qss_nil))))))))))))
    (qss_one (qs_ret (pe_cmpR op_isB (pe_call GI hr rfl mI kI bI .nil pass0 (pa_cons pe_one1 pa_nil)) pe_bl (nomark _))))), ?_⟩
  first | dsimp only [cxOf, Cx.nox] | skip
  have s1 : ∀ {n : Nat}, n ≤ 1000 → n ≤ sizeLine := fun h => Nat.le_of_lt (small1000 h)
  refine ⟨_, rfl, a, _, rfl, .inl hS, _, _, rfl, _, _, rfl, ?_⟩
  obtain ⟨nk, enk, hnk⟩ : ∃ nk : Int, (if (if (9 : Int) < (((ns.map V.int).length : Nat) : Int) then (9 : Int) else (((ns.map V.int).length : Nat) : Int)) > 1 then (if (9 : Int) < (((ns.map V.int).length : Nat) : Int) then (9 : Int) else (((ns.map V.int).length : Nat) : Int)) else 1) = nk ∧ nk ≤ 9 ∧ 1 ≤ nk := by
    refine ⟨_, rfl, ?_, ?_⟩
    · split <;> (try split) <;> omega
    · split <;> (try split) <;> omega
  rw [enk]
  refine ⟨nk, rfl, by omega, by omega, ?_⟩
  refine for_range (lo := 0) (n := nk.toNat) (LawI H a) ⟨_, _, _, _, _, _, _, _, _, _, _, _, _, _, _, _, _, rfl, Kp.refl⟩ ?_ ?_
  · rintro i σ Hx hi ⟨x1, x2, x3, x4, x5, x6, x7, x8, x9, x10, x11, x12, x13, x14, x15, x16, x17, rfl, kH⟩
    refine ⟨_, rfl, _, rfl, a, ns, i, by rw [Int.zero_add]; rfl, kH.seq hS, h63, by omega, fun hd d m hhd hok => ?_⟩
    generalize V.int (0 + (i : Nat)) = kx'
    have hhd0 : H hd = none := kH.none hhd
    refine ⟨s1 (show (7 : Nat) ≤ 1000 by decide), fun ul hul => ?_⟩
    refine ⟨s1 (show (7 : Nat) ≤ 1000 by decide), fun gl hgl => ?_⟩
    have hHS : HS H hd ul gl (upd (upd (upd Hx hd (hl d m 0 0)) ul (.lst (iv [3, 2, 2, 1, 4, 1, 4]))) gl (.lst (iv [12, 6, 4, 6, 20, 4, 8]))) 0 := by
      have k2 := Kp.new (o := .lst (iv [3, 2, 2, 1, 4, 1, 4])) hul
      have k3 := Kp.new (o := .lst (iv [12, 6, 4, 6, 20, 4, 8])) hgl
      exact ⟨(((kH.trans (Kp.new hhd)).trans k2).trans k3), ⟨d, m, k3 _ _ (k2 _ _ upd_same), hok⟩, k3 _ _ upd_same, upd_same⟩
    refine ⟨12, rfl, by decide, by decide, ?_⟩
    refine for_range (lo := 0) (n := (12 : Int).toNat) (TuI H a hd ul gl kx') ⟨0, _, _, _, _, _, _, _, _, _, _, _, _, _, rfl, hHS, by omega⟩ ?_ ?_
    · rintro j σ Hy hj ⟨t, x5, x6, x7, x8, x9, x10, x11, x12, x13, x14, x15, x16, x17, rfl, hs, ht⟩
      have hj12 : j < 12 := hj
      obtain ⟨d1, m1, hh1⟩ := hs.hand
      refine ⟨_, rfl, hd, d1, m1, t, 0, 7, rfl, hh1, by omega, by decide, by decide, fun at' d2 m2 t2 a0 a7 ok2 ht2 => ?_⟩
      obtain ⟨ia, rfl⟩ : ∃ ia : Nat, at' = (ia : Int) := ⟨at'.toNat, by omega⟩
      have hia : ia < 7 := by omega
      have hs2 := hs.take hhd0 ok2
      generalize upd Hy hd (hl d2 m2 t2 0) = H2 at hs2 ⊢
      refine ⟨_, rfl, ul, _, rfl, .inl (SqL.of hs2.us), fun sz hsz => ?_⟩
      have n1' : hd ≠ sz := by obtain ⟨_, _, h⟩ := hs2.hand; exact ne_of_none h.1 hsz
      have n2' : ul ≠ sz := ne_of_none hs2.us hsz
      have n3' : gl ≠ sz := ne_of_none hs2.gr hsz
      have hsz0 : H sz = none := hs2.kp.none hsz
      have hs3 : HS H hd ul gl (upd H2 sz (.lst (iv [3, 2, 2, 1, 4, 1, 4]))) t2 := hs2.keep (Kp.new hsz)
      have hz3 : upd H2 sz (.lst (iv [3, 2, 2, 1, 4, 1, 4])) sz = some (.lst (iv [3, 2, 2, 1, 4, 1, 4])) := upd_same
      generalize upd H2 sz (.lst (iv [3, 2, 2, 1, 4, 1, 4])) = H3 at hs3 hz3 ⊢
      obtain ⟨d3, m3, hh3⟩ := hs3.hand
      refine ⟨_, rfl, _, rfl, gl, _, _, _, rfl, rfl, SqL.of hs3.gr, n1 ia hia, _, _, rfl, rfl, _, rfl, hd, d3, m3, t2, 0, 5, rfl, hh3, by omega, by decide, by decide, fun xd d4 m4 t4 b0 b5 ok4 ht4 => ?_⟩
      obtain ⟨ix, rfl⟩ : ∃ ix : Nat, xd = (ix : Int) := ⟨xd.toNat, by omega⟩
      have hix : ix < 5 := by omega
      have hs4 := hs3.take hhd0 ok4
      have hz4 : upd H3 hd (hl d4 m4 t4 0) sz = some (.lst (iv [3, 2, 2, 1, 4, 1, 4])) := by rw [upd_ne (Ne.symm n1')]; exact hz3
      generalize upd H3 hd (hl d4 m4 t4 0) = H4 at hs4 hz4 ⊢
      refine ⟨_, _, rfl, rfl, ?_⟩
      refine ⟨_, rfl, _, rfl, sz, _, _, ia, rfl, rfl, hz4, n0 ia hia, ?_⟩
      rw [n2 ia hia ix hix]
      have hs5 : HS H hd ul gl (upd H4 sz (.lst (iv (s1N ia ix)))) t4 := hs4.put hsz0 n1' n2' n3'
      refine if_step (K := K) hia hix rfl rfl hs5 upd_same hsz0 n1' n2' n3' fun H6 hs6 hz6 => ?_
      obtain ⟨okp, epg⟩ := built_ok ia hia ix hix
      have hbd := n6 ia hia ix hix
      generalize szN ia ix = sz7 at okp epg hbd hz6
      obtain ⟨q1, q2, q3, q4, q5, q6, q7, rfl, c1, c2, c3, c4, c5, c6, c7⟩ := bnd7 _ hbd
      refine ⟨_, rfl, sz, _, rfl, SqL.of hz6, rfl, _, _, rfl, _, _, rfl, _, _, rfl, _, _, rfl, _, _, rfl, _, _, rfl, _, _, rfl, rfl, ?_⟩
      refine ⟨_, rfl, _, rfl, _, rfl, _, rfl, _, rfl, _, rfl, _, rfl, q1, q2, q3, q4, q5, q6, q7, rfl, c1, c2, c3, c4, c5, c6, c7, fun pp H7 f7 hP => ?_⟩
      refine .mk pp _ rfl hP okp fun H8 f8 => ?_
      have f68 := f7.trans f8
      have hs8 := hs6.keep f68
      have hz8 := f68 _ _ hz6
      have epg' : progB (builtG q1 q2 q3 q4 q5 q6 q7) = dueN [q1, q2, q3, q4, q5, q6, q7] := epg
      rw [epg']
      refine ⟨_, rfl, _, rfl, sz, gl, _, _, rfl, SqL.of hz8, SqL.of hs8.gr, fun D hD => ?_⟩
      refine comp_zb (xs := iv [q1, q2, q3, q4, q5, q6, q7]) (ys := iv [12, 6, 4, 6, 20, 4, 8]) (bs := (([q1, q2, q3, q4, q5, q6, q7] : List Nat).zip [12, 6, 4, 6, 20, 4, 8]).map fun z => decide ((z.1 : Int) ≤ ((z.2 : Nat) : Int))) (c := []) (SqL.of hz8) (SqL.of hs8.gr) rfl rfl (by rw [iv_len]; show (7 : Nat) ≤ 1000; decide) hD ?_ ?_
      · intro i' x y z Hu R hx hy hz fu ru
        rw [List.getElem?_map, Option.map_eq_some_iff] at hx hy hz
        obtain ⟨nx, hnx, rfl⟩ := hx
        obtain ⟨ny, hny, rfl⟩ := hy
        obtain ⟨zz, hzz, rfl⟩ := hz
        have ez : zz = (nx, ny) := by
          rw [List.getElem?_zip_eq_some] at hzz
          obtain ⟨h1, h2⟩ := hzz
          rw [hnx] at h1
          rw [hny] at h2
          obtain ⟨z1, z2⟩ := zz
          cases h1
          cases h2
          rfl
        subst ez
        exact ⟨_, rfl, _, rfl, _, _, rfl, rfl, ru Hu Kp.refl⟩
      intro H9 f9 hD9
      refine ⟨D, _, rfl, SqL.of hD9, ?_⟩
      refine ⟨_, rfl, _, _, _, true, rfl, .bl _, kit_bb, _, rfl, ?_⟩
      refine ⟨_, rfl, _, rfl, rfl, _, rfl, ?_⟩
      have ed : ((([q1, q2, q3, q4, q5, q6, q7] : List Nat).zip [12, 6, 4, 6, 20, 4, 8]).map fun z => decide ((z.1 : Int) ≤ ((z.2 : Nat) : Int))).all id = dueN [q1, q2, q3, q4, q5, q6, q7] := rfl
      rw [ed, blE]
      exact ⟨t4, _, _, _, _, _, _, _, _, _, _, _, _, _, rfl, hs8.keep f9, by omega⟩
    · rintro σ Hy ⟨t, x5, x6, x7, x8, x9, x10, x11, x12, x13, x14, x15, x16, x17, rfl, hs, ht⟩
      obtain ⟨d1, m1, hh1⟩ := hs.hand
      have ht24 : t ≤ 24 := by
        have : ((12 : Int).toNat : Int) = 12 := by decide
        omega
      refine ⟨_, rfl, hd, d1, m1, t, 0, 5, rfl, hh1, by omega, by decide, by decide, fun xd d2 m2 t2 b0 b5 ok2 ht2 => ?_⟩
      obtain ⟨ix, rfl⟩ : ∃ ix : Nat, xd = (ix : Int) := ⟨xd.toNat, by omega⟩
      have hix : ix < 5 := by omega
      have hs2 := hs.take hhd0 ok2
      generalize upd Hy hd (hl d2 m2 t2 0) = H2 at hs2 ⊢
      refine ⟨_, _, rfl, rfl, ?_⟩
      have e78 : (78 : Int) + (ix : Int) = ((78 + ix : Nat) : Int) := by omega
      obtain ⟨okp, epg⟩ := full_ok ix hix
      show gName 12 (V.int ((78 : Int) + (ix : Int))) _ _ _
      rw [e78]
      refine ⟨_, rfl, 78 + ix, rfl, by omega, fun pp H7 f7 hP => ?_⟩
      refine .mk pp _ rfl hP okp fun H8 f8 => ?_
      have hs8 := hs2.keep (f7.trans f8)
      rw [epg]
      refine ⟨_, rfl, _, _, _, true, rfl, .bl _, kit_bb, _, rfl, ?_⟩
      refine ⟨_, rfl, _, rfl, _, _, rfl, rfl, rfl, _, rfl, ?_⟩
      rw [blE]
      refine ⟨Nat.zero_le _, fun e1 he1 => ⟨Nat.zero_le _, fun e2 he2 => ⟨Nat.zero_le _, fun e3 he3 => ⟨Nat.zero_le _, fun e4 he4 => ⟨s1 (show (3 : Nat) ≤ 1000 by decide), fun e5 he5 => ⟨Nat.zero_le _, fun e6 he6 => fun e7 he7 => ?_⟩⟩⟩⟩⟩⟩
      refine ⟨Nat.zero_le _, fun e8 he8 => ⟨s1 (show (3 : Nat) ≤ 1000 by decide), fun e9 he9 => ⟨s1 (show (1 : Nat) ≤ 1000 by decide), fun e10 he10 => ⟨Nat.zero_le _, fun e11 he11 => ⟨s1 (show (2 : Nat) ≤ 1000 by decide), fun e12 he12 => ?_⟩⟩⟩⟩⟩
      refine ⟨Nat.zero_le _, fun e13 he13 => ⟨Nat.zero_le _, fun e14 he14 => ⟨s1 (show (3 : Nat) ≤ 1000 by decide), fun e15 he15 => ⟨s1 (show (11 : Nat) ≤ 1000 by decide), fun L hL => ?_⟩⟩⟩⟩
      have K2 := Kp.new (o := .tup ([] : List V)) he2
      have K3 := Kp.new (o := .tup ([] : List V)) he3
      have K4 := Kp.new (o := .tup ([] : List V)) he4
      have K5 := Kp.new (o := .tup [V.ref e2, .ref e3, .ref e4]) he5
      have K6 := Kp.new (o := .lst ([] : List V)) he6
      have K7 := Kp.new (o := .dK []) he7
      have K8 := Kp.new (o := .tup ([] : List V)) he8
      have K9 := Kp.new (o := .tup [V.str "kind", .non, .ref e8]) he9
      have K10 := Kp.new (o := .tup [V.ref e9]) he10
      have K11 := Kp.new (o := .tup ([] : List V)) he11
      have K12 := Kp.new (o := .tup [V.ref e10, .ref e11]) he12
      have K13 := Kp.new (o := .tup ([] : List V)) he13
      have K14 := Kp.new (o := .tup ([] : List V)) he14
      have K15 := Kp.new (o := .tup [V.non, .ref e13, .ref e14]) he15
      have T15 := Kp.new (o := .lst [V.non, .int 0, .bl true, .str "", .str "kind", .ref e1, .ref e5, .ref e6, .ref e7, .ref e12, .ref e15]) hL
      have T12 := (K13.trans K14).trans (K15.trans T15)
      have T7 := (K8.trans K9).trans ((K10.trans K11).trans (K12.trans T12))
      have T6 := K7.trans T7
      have T5 := K6.trans T6
      have T4 := K5.trans T5
      have T3 := K4.trans T4
      have T2 := K3.trans T3
      have T1 := K2.trans T2
      have T0 := (Kp.new (o := .tup ([] : List V)) he1).trans T1
      have w1 := T1 _ _ upd_same
      have w2 := T2 _ _ upd_same
      have w3 := T3 _ _ upd_same
      have w4 := T4 _ _ upd_same
      have w5 := T5 _ _ upd_same
      have w6 := T6 _ _ upd_same
      have w7 := T7 _ _ upd_same
      have w12 := T12 _ _ upd_same
      have w15 := T15 _ _ upd_same
      have wL := upd_same (H := upd (upd (upd (upd (upd (upd (upd (upd (upd (upd (upd (upd (upd (upd (upd H8 e1 (.tup [])) e2 (.tup [])) e3 (.tup [])) e4 (.tup [])) e5 (.tup [V.ref e2, .ref e3, .ref e4])) e6 (.lst [])) e7 (.dK [])) e8 (.tup [])) e9 (.tup [V.str "kind", .non, .ref e8])) e10 (.tup [V.ref e9])) e11 (.tup [])) e12 (.tup [V.ref e10, .ref e11])) e13 (.tup [])) e14 (.tup [])) e15 (.tup [V.non, .ref e13, .ref e14])) (a := L) (o := .lst [V.non, .int 0, .bl true, .str "", .str "kind", .ref e1, .ref e5, .ref e6, .ref e7, .ref e12, .ref e15])
      have kF := hs8.kp.trans T0
      clear K2 K3 K4 K5 K6 K7 K8 K9 K10 K11 K12 K13 K14 K15 T15 T12 T7 T6 T5 T4 T3 T2 T1 T0 he1 he2 he3 he4 he5 he6 he7 he8 he9 he10 he11 he12 he13 he14 he15 hL
      generalize upd (upd (upd (upd (upd (upd (upd (upd (upd (upd (upd (upd (upd (upd (upd (upd H8 e1 (.tup [])) e2 (.tup [])) e3 (.tup [])) e4 (.tup [])) e5 (.tup [V.ref e2, .ref e3, .ref e4])) e6 (.lst [])) e7 (.dK [])) e8 (.tup [])) e9 (.tup [V.str "kind", .non, .ref e8])) e10 (.tup [V.ref e9])) e11 (.tup [])) e12 (.tup [V.ref e10, .ref e11])) e13 (.tup [])) e14 (.tup [])) e15 (.tup [V.non, .ref e13, .ref e14])) L (.lst [V.non, .int 0, .bl true, .str "", .str "kind", .ref e1, .ref e5, .ref e6, .ref e7, .ref e12, .ref e15]) = HF at w1 w2 w3 w4 w5 w6 w7 w12 w15 wL kF ⊢
      have hodd : ∀ x ∈ [V.non, .int 0, .bl true, .str "", .str "kind", .ref e1, .ref e5, .ref e6, .ref e7, .ref e12, .ref e15], Odd K HF x := by
        intro x hx
        simp only [List.mem_cons, List.not_mem_nil, or_false] at hx
        rcases hx with rfl | rfl | rfl | rfl | rfl | rfl | rfl | rfl | rfl | rfl | rfl
        · exact fun Hz Q f q => .no _ _ rfl .non kit_nt (q Hz Kp.refl)
        · exact fun Hz Q f q => .no _ _ rfl (.int 0) kit_it (q Hz Kp.refl)
        · exact fun Hz Q f q => .no _ _ rfl (.bl true) kit_bt (q Hz Kp.refl)
        · exact fun Hz Q f q => .no _ _ rfl (.str _) kit_st (q Hz Kp.refl)
        · exact fun Hz Q f q => .no _ _ rfl (.str _) kit_st (q Hz Kp.refl)
        · exact fun Hz Q f q => .other e1 _ rfl (f _ _ w1) (by decide) (q Hz Kp.refl)
        · exact fun Hz Q f q => .mk e5 ([], [], 0, 0) rfl ⟨e2, e3, e4, [], f _ _ w5, f _ _ w2, .nil, f _ _ w3, ⟨[], f _ _ w4, rfl, fun r hr => by simp at hr⟩⟩ none_ok.1 fun H' f' => by rw [none_ok.2]; exact q H' f'
        · exact fun Hz Q f q => .no _ _ rfl (.lst (f _ _ w6)) kit_lt (q Hz Kp.refl)
        · exact fun Hz Q f q => .no _ _ rfl (.dK (f _ _ w7)) kit_dt (q Hz Kp.refl)
        · exact fun Hz Q f q => .other e12 _ rfl (f _ _ w12) (show (2 : Nat) ≠ 3 by decide) (q Hz Kp.refl)
        · exact fun Hz Q f q => .kno e15 .non _ _ _ rfl (f _ _ w15) .non kit_nt (q Hz Kp.refl)
      refine ⟨L, rfl, ⟨_, SqL.of wL⟩, ?_⟩
      refine for_list (xs := [V.non, .int 0, .bl true, .str "", .str "kind", .ref e1, .ref e5, .ref e6, .ref e7, .ref e12, .ref e15]) (fun _ σ Hz => LawI H a (i + 1) σ Hz ∧ Kp HF Hz) ⟨⟨_, _, _, _, _, _, _, _, _, _, _, _, _, _, _, _, _, rfl, kF⟩, Kp.refl⟩ ?_ ?_ ?_
      · rintro i' σ Hz hi' ⟨_, fz⟩
        exact SqL.of (fz _ _ wL)
      · rintro i' x σ Hz hx ⟨⟨x1, x2, x3, x4, x5, x6, x7, x8, x9, x10, x11, x12, x13, x14, x15, x16, x17, rfl, kz⟩, fz⟩
        refine ⟨_, rfl, hodd x (List.mem_of_getElem? hx) Hz _ fz fun H' f' => ⟨_, _, rfl, rfl, _, rfl, ?_⟩⟩
        exact ⟨⟨_, _, _, _, _, _, _, _, _, _, _, _, _, _, _, _, _, rfl, kz.trans f'⟩, fz.trans f'⟩
      · rintro σ Hz ⟨z, _⟩
        exact z
  · rintro σ Hx ⟨x1, x2, x3, x4, x5, x6, x7, x8, x9, x10, x11, x12, x13, x14, x15, x16, x17, rfl, kH⟩
    refine ⟨Nat.zero_le _, fun e1 he1 => ⟨s1 (show (3 : Nat) ≤ 1000 by decide), fun e2 he2 => ⟨s1 (show (1 : Nat) ≤ 1000 by decide), fun e3 he3 => ⟨Nat.zero_le _, fun e4 he4 => ⟨Nat.zero_le _, fun e5 he5 => ⟨s1 (show (3 : Nat) ≤ 1000 by decide), fun e6 he6 => ?_⟩⟩⟩⟩⟩⟩
    have K2 := Kp.new (o := .tup [V.str "kind", .non, .ref e1]) he2
    have K3 := Kp.new (o := .tup [V.ref e2]) he3
    have K4 := Kp.new (o := .tup ([] : List V)) he4
    have K5 := Kp.new (o := .tup ([] : List V)) he5
    have K6 := Kp.new (o := .tup [V.ref e3, .ref e4, .ref e5]) he6
    have T5 := K6
    have T4 := K5.trans T5
    have T3 := K4.trans T4
    have T2 := K3.trans T3
    have T1 := K2.trans T2
    refine .mk e6 ([("kind", [])], [], 0, 0) rfl ⟨e3, e4, e5, [e2], upd_same, T3 _ _ upd_same, .cons ⟨e1, [], T2 _ _ upd_same, T1 _ _ upd_same, .nil⟩ .nil, T4 _ _ upd_same, ⟨[], T5 _ _ upd_same, rfl, fun r hr => by simp at hr⟩⟩ one_ok.1 fun H' f' => ?_
    rw [one_ok.2]
    exact ⟨_, _, rfl, rfl, q H'⟩
end
end Gn
end
section
set_option Elab.async false
set_option linter.all false
set_option maxRecDepth 100000
namespace Gn
open PySem L2
theorem kdict_of {K : PySem.W.Frag} {P : Program} {w : World} {a : Addr} {n : Nat} {es : List (Str × Nat × Addr)} {ar : Array DictEntry} (hs : (a == sysModules) = false) (l : K.lookup a = some ⟨.type "dict", none, .dict ar n, #[]⟩)
    (he : ar.toList = es.map fun e => ⟨PyData.keyHash w.params e.1, .str e.1 e.2.1, .ref e.2.2⟩) (nd : (es.map (·.1)).Nodup) : KDict K P w a (es.map fun e => ((Sum.inr e.1 : Key), V.ref e.2.2)) := by
  intro h hin
  refine ⟨hs, es.map fun e => ((Sum.inr e.1 : Key), Value.ref e.2.2), ?_, ⟨_, ar, n, hin a _ l, ⟨rfl, rfl, rfl⟩, rfl, ?_, ?_, ?_⟩⟩
  · clear he nd
    induction es with
    | nil => exact .nil
    | cons e es ih => exact .cons ⟨rfl, rfl⟩ ih
  · intro x hx
    have : x ∈ ar.toList := by simpa using hx
    rw [he] at this
    obtain ⟨e, _, rfl⟩ := List.mem_map.mp this
    exact ⟨.inr e.1, by show Value.isStrOf e.1 (.str e.1 e.2.1) = true; simp [Value.isStrOf], rfl⟩
  · rw [he]
    clear he nd
    induction es with
    | nil => exact .nil
    | cons e es ih => exact .cons (by show Value.isStrOf e.1 (.str e.1 e.2.1) = true; simp [Value.isStrOf]) rfl ih
  · rw [List.map_map]
    have : (es.map ((fun x => x.1) ∘ fun e => ((Sum.inr e.1 : Key), Value.ref e.2.2))) = (es.map (·.1)).map fun x => (Sum.inr x : Key) := by rw [List.map_map]; rfl
    rw [this]
    exact List.Pairwise.map _ (fun x y h z => h (Sum.inr.inj z)) nd
end Gn
end
section
set_option Elab.async false
set_option linter.all false
set_option maxRecDepth 100000
namespace Gn
open PySem L2
theorem sqt_of {K : PySem.W.Frag} {a : Addr} {od : Option Addr} {x y : Str} {t1 t2 n : Nat} {sl : Array (Option Value)} (l : K.lookup a = some ⟨.type "tuple", od, .seq #[.str x t1, .str y t2] n, sl⟩) (H : Hp) : SqT K H a [.str x, .str y] :=
  .inr ⟨_, _, _, l, rfl, rfl, by show 2 ≤ sizeLine; exact Nat.le_of_lt (small1000 (by decide)), .cons ⟨_, rfl⟩ (.cons ⟨_, rfl⟩ .nil)⟩
theorem sqt_of1 {K : PySem.W.Frag} {a : Addr} {od : Option Addr} {x : Str} {t1 n : Nat} {sl : Array (Option Value)} (l : K.lookup a = some ⟨.type "tuple", od, .seq #[.str x t1] n, sl⟩) (H : Hp) : SqT K H a [.str x] :=
  .inr ⟨_, _, _, l, rfl, rfl, by show 1 ≤ sizeLine; exact Nat.le_of_lt (small1000 (by decide)), .cons ⟨_, rfl⟩ .nil⟩
theorem valV_ne {k k' : Key} {v : V} {r : List (Key × V)} (h : k' ≠ k) : valV ((k', v) :: r) k = valV r k := by
  unfold valV
  rw [List.find?_cons_of_neg (by simpa using h)]
theorem valV_eq {k : Key} {v : V} {r : List (Key × V)} : valV ((k, v) :: r) k = some v := by
  unfold valV
  rw [List.find?_cons_of_pos (by simp)]
  rfl
set_option maxHeartbeats 4000000 in
theorem all_mk {l : PySem.W.OpenLaw} {w : World} {K : PySem.W.Frag} {h : Heap} {mg : Str → Option Value} {fa : Addr} (X : K.In h) (G : h.Ns mainGlobals mg) (hfa : mg "law" = some (.ref fa))
    {f1 f2 f3 f4 f5 f6 f7 f8 f9 f10 f11 f12 f13 f14 f15 f16 f17 f18 f19 f20 f21 f22 f23 am ah ap rp1 rp2 rp3 rp4 rp5 rp6 rp7 rp8 rp9 : Addr} {od1 an1 od2 an2 od3 an3 od4 an4 od5 an5 od6 an6 od7 an7 od8 an8 od9 an9 od10 an10 od11 an11 od12 an12 od13 an13 od14 an14 od15 an15 od16 an16 od17 an17 od18 an18 od19 an19 od20 an20 od21 an21 od22 an22 od23 an23 odh odw odr : Option Addr} {sl1 sl2 sl3 sl4 sl5 sl6 sl7 sl8 sl9 sl10 sl11 sl12 sl13 sl14 sl15 sl16 sl17 sl18 sl19 sl20 sl21 sl22 sl23 slh slw slr : Array (Option Value)} {oc1 kV1 dc1 pm1 cd1 ct1 oc2 kV2 dc2 pm2 cd2 ct2 oc3 kV3 dc3 pm3 cd3 ct3 oc4 kV4 dc4 pm4 cd4 ct4 oc5 kV5 dc5 pm5 cd5 ct5 oc6 kV6 dc6 pm6 cd6 ct6 oc7 kV7 dc7 pm7 cd7 ct7 oc8 kV8 dc8 pm8 cd8 ct8 oc9 kV9 dc9 pm9 cd9 ct9 oc10 kV10 dc10 pm10 cd10 ct10 oc11 kV11 dc11 pm11 cd11 ct11 oc12 kV12 dc12 pm12 cd12 ct12 oc13 kV13 dc13 pm13 cd13 ct13 oc14 kV14 dc14 pm14 cd14 ct14 oc15 kV15 dc15 pm15 cd15 ct15 oc16 kV16 dc16 pm16 cd16 ct16 oc17 kV17 dc17 pm17 cd17 ct17 oc18 kV18 dc18 pm18 cd18 ct18 oc19 kV19 dc19 pm19 cd19 ct19 oc20 kV20 dc20 pm20 cd20 ct20 oc21 kV21 dc21 pm21 cd21 ct21 oc22 kV22 dc22 pm22 cd22 ct22 oc23 kV23 dc23 pm23 cd23 ct23 : Value} {th1 th2 nh tw nw tr nr np to tc1 tc2 tc3 tc4 tc5 tc6 tc7 tc8 tc9 tp1 tp2 tp3 tp4 tp5 tp6 tp7 tp8 tp9 : Nat}
    (a1 : PySem.W.nsIn K mainGlobals "bodies" = some (some (.ref f1))) (l1 : K.lookup f1 = some ⟨oc1, od1, .func (PySem.W.fnOf "bodies" "bodies" (defArgs sBodies) (defBody sBodies) (defScope sBodies) .none kV1 dc1 pm1 an1 cd1 ct1), sl1⟩) (c1 : PySem.W.codeIn K cd1 "bodies" = true) (k1 : PySem.W.keepIn K (.ref f1) = true)
    (a2 : PySem.W.nsIn K mainGlobals "rows_within" = some (some (.ref f2))) (l2 : K.lookup f2 = some ⟨oc2, od2, .func (PySem.W.fnOf "rows_within" "rows_within" (defArgs sWithin) (defBody sWithin) (defScope sWithin) .none kV2 dc2 pm2 an2 cd2 ct2), sl2⟩) (c2 : PySem.W.codeIn K cd2 "rows_within" = true) (k2 : PySem.W.keepIn K (.ref f2) = true)
    (a3 : PySem.W.nsIn K mainGlobals "is_word" = some (some (.ref f3))) (l3 : K.lookup f3 = some ⟨oc3, od3, .func (PySem.W.fnOf "is_word" "is_word" (defArgs sWord) (defBody sWord) (defScope sWord) .none kV3 dc3 pm3 an3 cd3 ct3), sl3⟩) (c3 : PySem.W.codeIn K cd3 "is_word" = true) (k3 : PySem.W.keepIn K (.ref f3) = true)
    (a4 : PySem.W.nsIn K mainGlobals "is_tuple" = some (some (.ref f4))) (l4 : K.lookup f4 = some ⟨oc4, od4, .func (PySem.W.fnOf "is_tuple" "is_tuple" (defArgs sTup) (defBody sTup) (defScope sTup) .none kV4 dc4 pm4 an4 cd4 ct4), sl4⟩) (c4 : PySem.W.codeIn K cd4 "is_tuple" = true) (k4 : PySem.W.keepIn K (.ref f4) = true)
    (a5 : PySem.W.nsIn K mainGlobals "are_unlike" = some (some (.ref f5))) (l5 : K.lookup f5 = some ⟨oc5, od5, .func (PySem.W.fnOf "are_unlike" "are_unlike" (defArgs sUnl) (defBody sUnl) (defScope sUnl) .none kV5 dc5 pm5 an5 cd5 ct5), sl5⟩) (c5 : PySem.W.codeIn K cd5 "are_unlike" = true) (k5 : PySem.W.keepIn K (.ref f5) = true)
    (a6 : PySem.W.nsIn K mainGlobals "are_params" = some (some (.ref f6))) (l6 : K.lookup f6 = some ⟨oc6, od6, .func (PySem.W.fnOf "are_params" "are_params" (defArgs sPar) (defBody sPar) (defScope sPar) .none kV6 dc6 pm6 an6 cd6 ct6), sl6⟩) (c6 : PySem.W.codeIn K cd6 "are_params" = true) (k6 : PySem.W.keepIn K (.ref f6) = true)
    (a7 : PySem.W.nsIn K mainGlobals "is_deed" = some (some (.ref f7))) (l7 : K.lookup f7 = some ⟨oc7, od7, .func (PySem.W.fnOf "is_deed" "is_deed" (defArgs sDeed) (defBody sDeed) (defScope sDeed) .none kV7 dc7 pm7 an7 cd7 ct7), sl7⟩) (c7 : PySem.W.codeIn K cd7 "is_deed" = true) (k7 : PySem.W.keepIn K (.ref f7) = true)
    (a8 : PySem.W.nsIn K mainGlobals "are_deeds" = some (some (.ref f8))) (l8 : K.lookup f8 = some ⟨oc8, od8, .func (PySem.W.fnOf "are_deeds" "are_deeds" (defArgs sDeeds) (defBody sDeeds) (defScope sDeeds) .none kV8 dc8 pm8 an8 cd8 ct8), sl8⟩) (c8 : PySem.W.codeIn K cd8 "are_deeds" = true) (k8 : PySem.W.keepIn K (.ref f8) = true)
    (a9 : PySem.W.nsIn K mainGlobals "is_kind" = some (some (.ref f9))) (l9 : K.lookup f9 = some ⟨oc9, od9, .func (PySem.W.fnOf "is_kind" "is_kind" (defArgs sKind) (defBody sKind) (defScope sKind) .none kV9 dc9 pm9 an9 cd9 ct9), sl9⟩) (c9 : PySem.W.codeIn K cd9 "is_kind" = true) (k9 : PySem.W.keepIn K (.ref f9) = true)
    (a10 : PySem.W.nsIn K mainGlobals "are_kinds" = some (some (.ref f10))) (l10 : K.lookup f10 = some ⟨oc10, od10, .func (PySem.W.fnOf "are_kinds" "are_kinds" (defArgs sKinds) (defBody sKinds) (defScope sKinds) .none kV10 dc10 pm10 an10 cd10 ct10), sl10⟩) (c10 : PySem.W.codeIn K cd10 "are_kinds" = true) (k10 : PySem.W.keepIn K (.ref f10) = true)
    (a11 : PySem.W.nsIn K mainGlobals "are_late" = some (some (.ref f11))) (l11 : K.lookup f11 = some ⟨oc11, od11, .func (PySem.W.fnOf "are_late" "are_late" (defArgs sLate) (defBody sLate) (defScope sLate) .none kV11 dc11 pm11 an11 cd11 ct11), sl11⟩) (c11 : PySem.W.codeIn K cd11 "are_late" = true) (k11 : PySem.W.keepIn K (.ref f11) = true)
    (a12 : PySem.W.nsIn K mainGlobals "deeds_agree" = some (some (.ref f12))) (l12 : K.lookup f12 = some ⟨oc12, od12, .func (PySem.W.fnOf "deeds_agree" "deeds_agree" (defArgs sAgree) (defBody sAgree) (defScope sAgree) .none kV12 dc12 pm12 an12 cd12 ct12), sl12⟩) (c12 : PySem.W.codeIn K cd12 "deeds_agree" = true) (k12 : PySem.W.keepIn K (.ref f12) = true)
    (a13 : PySem.W.nsIn K mainGlobals "part_fits" = some (some (.ref f13))) (l13 : K.lookup f13 = some ⟨oc13, od13, .func (PySem.W.fnOf "part_fits" "part_fits" (defArgs sFits) (defBody sFits) (defScope sFits) .none kV13 dc13 pm13 an13 cd13 ct13), sl13⟩) (c13 : PySem.W.codeIn K cd13 "part_fits" = true) (k13 : PySem.W.keepIn K (.ref f13) = true)
    (a14 : PySem.W.nsIn K mainGlobals "is_row" = some (some (.ref f14))) (l14 : K.lookup f14 = some ⟨oc14, od14, .func (PySem.W.fnOf "is_row" "is_row" (defArgs sRow) (defBody sRow) (defScope sRow) .none kV14 dc14 pm14 an14 cd14 ct14), sl14⟩) (c14 : PySem.W.codeIn K cd14 "is_row" = true) (k14 : PySem.W.keepIn K (.ref f14) = true)
    (a15 : PySem.W.nsIn K mainGlobals "room_behind" = some (some (.ref f15))) (l15 : K.lookup f15 = some ⟨oc15, od15, .func (PySem.W.fnOf "room_behind" "room_behind" (defArgs sRoom) (defBody sRoom) (defScope sRoom) .none kV15 dc15 pm15 an15 cd15 ct15), sl15⟩) (c15 : PySem.W.codeIn K cd15 "room_behind" = true) (k15 : PySem.W.keepIn K (.ref f15) = true)
    (a16 : PySem.W.nsIn K mainGlobals "bodies_fit" = some (some (.ref f16))) (l16 : K.lookup f16 = some ⟨oc16, od16, .func (PySem.W.fnOf "bodies_fit" "bodies_fit" (defArgs sBfit) (defBody sBfit) (defScope sBfit) .none kV16 dc16 pm16 an16 cd16 ct16), sl16⟩) (c16 : PySem.W.codeIn K cd16 "bodies_fit" = true) (k16 : PySem.W.keepIn K (.ref f16) = true)
    (a17 : PySem.W.nsIn K mainGlobals "is_program" = some (some (.ref f17))) (l17 : K.lookup f17 = some ⟨oc17, od17, .func (PySem.W.fnOf "is_program" "is_program" (defArgs sIsP) (defBody sIsP) (defScope sIsP) .none kV17 dc17 pm17 an17 cd17 ct17), sl17⟩) (c17 : PySem.W.codeIn K cd17 "is_program" = true) (k17 : PySem.W.keepIn K (.ref f17) = true)
    (a18 : PySem.W.nsIn K mainGlobals "_law_hand" = some (some (.ref f18))) (l18 : K.lookup f18 = some ⟨oc18, od18, .func (PySem.W.fnOf "_law_hand" "_law_hand" (defArgs sHand) (defBody sHand) (defScope sHand) .none kV18 dc18 pm18 an18 cd18 ct18), sl18⟩) (c18 : PySem.W.codeIn K cd18 "_law_hand" = true) (k18 : PySem.W.keepIn K (.ref f18) = true)
    (a19 : PySem.W.nsIn K mainGlobals "_law_take" = some (some (.ref f19))) (l19 : K.lookup f19 = some ⟨oc19, od19, .func (PySem.W.fnOf "_law_take" "_law_take" (defArgs sTake) (defBody sTake) (defScope sTake) .none kV19 dc19 pm19 an19 cd19 ct19), sl19⟩) (c19 : PySem.W.codeIn K cd19 "_law_take" = true) (k19 : PySem.W.keepIn K (.ref f19) = true)
    (a20 : PySem.W.nsIn K mainGlobals "_law_word" = some (some (.ref f20))) (l20 : K.lookup f20 = some ⟨oc20, od20, .func (PySem.W.fnOf "_law_word" "_law_word" (defArgs sLWord) (defBody sLWord) (defScope sLWord) .none kV20 dc20 pm20 an20 cd20 ct20), sl20⟩) (c20 : PySem.W.codeIn K cd20 "_law_word" = true) (k20 : PySem.W.keepIn K (.ref f20) = true)
    (a21 : PySem.W.nsIn K mainGlobals "_law_built" = some (some (.ref f21))) (l21 : K.lookup f21 = some ⟨oc21, od21, .func (PySem.W.fnOf "_law_built" "_law_built" (defArgs sBuilt) (defBody sBuilt) (defScope sBuilt) .none kV21 dc21 pm21 an21 cd21 ct21), sl21⟩) (c21 : PySem.W.codeIn K cd21 "_law_built" = true) (k21 : PySem.W.keepIn K (.ref f21) = true)
    (a22 : PySem.W.nsIn K mainGlobals "_law_full" = some (some (.ref f22))) (l22 : K.lookup f22 = some ⟨oc22, od22, .func (PySem.W.fnOf "_law_full" "_law_full" (defArgs sFull) (defBody sFull) (defScope sFull) .none kV22 dc22 pm22 an22 cd22 ct22), sl22⟩) (c22 : PySem.W.codeIn K cd22 "_law_full" = true) (k22 : PySem.W.keepIn K (.ref f22) = true)
    (a23 : PySem.W.nsIn K mainGlobals "law" = some (some (.ref f23))) (l23 : K.lookup f23 = some ⟨oc23, od23, .func (PySem.W.fnOf "law" "law" (defArgs sLaw) (defBody sLaw) (defScope sLaw) .none kV23 dc23 pm23 an23 cd23 ct23), sl23⟩) (c23 : PySem.W.codeIn K cd23 "law" = true) (k23 : PySem.W.keepIn K (.ref f23) = true)
    (aM : PySem.W.nsIn K mainGlobals "MAIN" = some (some (.ref am)))
    (aH : PySem.W.nsIn K mainGlobals "HOLDERS" = some (some (.ref ah))) (lH : K.lookup ah = some ⟨.type "tuple", odh, .seq #[.str "either" th1, .str "again" th2] nh, slh⟩)
    (aO : PySem.W.nsIn K mainGlobals "OWN" = some (some (.str "own" to)))
    (e1 : PySem.W.nsIn K mainGlobals "MOST_LETTERS" = some (some (.int 8 tc1)))
    (e2 : PySem.W.nsIn K mainGlobals "MOST_KINDS" = some (some (.int 12 tc2)))
    (e3 : PySem.W.nsIn K mainGlobals "MOST_DEEDS" = some (some (.int 6 tc3)))
    (e4 : PySem.W.nsIn K mainGlobals "MOST_PARAMS" = some (some (.int 4 tc4)))
    (e5 : PySem.W.nsIn K mainGlobals "MOST_LATE" = some (some (.int 6 tc5)))
    (e6 : PySem.W.nsIn K mainGlobals "MOST_IN_ROWS" = some (some (.int 20 tc6)))
    (e7 : PySem.W.nsIn K mainGlobals "MOST_ROWS" = some (some (.int 80 tc7)))
    (e8 : PySem.W.nsIn K mainGlobals "MOST_NESTED" = some (some (.int 4 tc8)))
    (e9 : PySem.W.nsIn K mainGlobals "NO_ROOM" = some (some (.int (-1) tc9)))
    (aP : PySem.W.nsIn K mainGlobals "PARTS" = some (some (.ref ap))) (sP : (ap == sysModules) = false) (lP : K.lookup ap = some ⟨.type "dict", none, .dict #[⟨PyData.keyHash w.params "make", .str "make" tp1, .ref rp1⟩, ⟨PyData.keyHash w.params "copy", .str "copy" tp2, .ref rp2⟩, ⟨PyData.keyHash w.params "put", .str "put" tp3, .ref rp3⟩, ⟨PyData.keyHash w.params "take", .str "take" tp4, .ref rp4⟩, ⟨PyData.keyHash w.params "say", .str "say" tp5, .ref rp5⟩, ⟨PyData.keyHash w.params "call", .str "call" tp6, .ref rp6⟩, ⟨PyData.keyHash w.params "either", .str "either" tp7, .ref rp7⟩, ⟨PyData.keyHash w.params "again", .str "again" tp8, .ref rp8⟩, ⟨PyData.keyHash w.params "bring", .str "bring" tp9, .ref rp9⟩] np, #[]⟩)
    (lW : K.lookup rp5 = some ⟨.type "tuple", odw, .seq #[.str "word" tw] nw, slw⟩) (lR : K.lookup rp8 = some ⟨.type "tuple", odr, .seq #[.str "rows" tr] nr, slr⟩)
    (z1 : PySem.W.nsIn K mainGlobals "len" = some none)
    (z2 : PySem.W.nsIn K mainGlobals "abs" = some none)
    (z3 : PySem.W.nsIn K mainGlobals "int" = some none)
    (z4 : PySem.W.nsIn K mainGlobals "range" = some none)
    (z5 : PySem.W.nsIn K mainGlobals "tuple" = some none)
    (z6 : PySem.W.nsIn K mainGlobals "list" = some none)
    (z7 : PySem.W.nsIn K mainGlobals "all" = some none)
    (z8 : PySem.W.nsIn K mainGlobals "zip" = some none)
    (z9 : PySem.W.nsIn K mainGlobals "isinstance" = some none)
    (z10 : PySem.W.nsIn K mainGlobals "bool" = some none)
    (z11 : PySem.W.nsIn K mainGlobals "str" = some none)
    (z12 : PySem.W.nsIn K mainGlobals "enumerate" = some none)
    (z13 : PySem.W.nsIn K mainGlobals "sorted" = some none)
    (z14 : PySem.W.nsIn K mainGlobals "max" = some none)
    (z15 : PySem.W.nsIn K mainGlobals "min" = some none)
    (z16 : PySem.W.nsIn K mainGlobals "set" = some none) :
    ∃ fd : FuncData, (∀ (s : Shared) (v : Value), BindsTo s fd ⟨[v], []⟩ [("_law_script", v)]) ∧ ∀ base : Heap, K.In base → base.Ns mainGlobals mg → FnOk l.prog w K mg base CX0 65 fa fd ["_law_script"] (spLaw K) := by
  have e := hfa.symm.trans (PySem.W.mg_of X G a23)
  cases e
  have mM := PySem.W.mg_of X G aM
  have mH := PySem.W.mg_of X G aH
  have mO := PySem.W.mg_of X G aO
  have mP := PySem.W.mg_of X G aP
  have g1 := PySem.W.mg_of X G e1
  have g2 := PySem.W.mg_of X G e2
  have g3 := PySem.W.mg_of X G e3
  have g4 := PySem.W.mg_of X G e4
  have g5 := PySem.W.mg_of X G e5
  have g6 := PySem.W.mg_of X G e6
  have g7 := PySem.W.mg_of X G e7
  have g8 := PySem.W.mg_of X G e8
  have g9 := PySem.W.mg_of X G e9
  have F1 := fun_mk (st := sBodies) l1 c1 k1
  have b1 := F1.binds (ps := ["program"]) fun _ _ _ _ _ _ us hl => match us, hl with | [_], _ => rfl
  have m1 := PySem.W.mg_of X G a1
  have F2 := fun_mk (st := sWithin) l2 c2 k2
  have b2 := F2.binds (ps := ["row"]) fun _ _ _ _ _ _ us hl => match us, hl with | [_], _ => rfl
  have m2 := PySem.W.mg_of X G a2
  have F3 := fun_mk (st := sWord) l3 c3 k3
  have b3 := F3.binds (ps := ["thing"]) fun _ _ _ _ _ _ us hl => match us, hl with | [_], _ => rfl
  have m3 := PySem.W.mg_of X G a3
  have F4 := fun_mk (st := sTup) l4 c4 k4
  have b4 := F4.binds (ps := ["thing", "least", "most"]) fun _ _ _ _ _ _ us hl => match us, hl with | [_, _, _], _ => rfl
  have m4 := PySem.W.mg_of X G a4
  have F5 := fun_mk (st := sUnl) l5 c5 k5
  have b5 := F5.binds (ps := ["words"]) fun _ _ _ _ _ _ us hl => match us, hl with | [_], _ => rfl
  have m5 := PySem.W.mg_of X G a5
  have F6 := fun_mk (st := sPar) l6 c6 k6
  have b6 := F6.binds (ps := ["thing"]) fun _ _ _ _ _ _ us hl => match us, hl with | [_], _ => rfl
  have m6 := PySem.W.mg_of X G a6
  have F7 := fun_mk (st := sDeed) l7 c7 k7
  have b7 := F7.binds (ps := ["thing"]) fun _ _ _ _ _ _ us hl => match us, hl with | [_], _ => rfl
  have m7 := PySem.W.mg_of X G a7
  have F8 := fun_mk (st := sDeeds) l8 c8 k8
  have b8 := F8.binds (ps := ["thing"]) fun _ _ _ _ _ _ us hl => match us, hl with | [_], _ => rfl
  have m8 := PySem.W.mg_of X G a8
  have F9 := fun_mk (st := sKind) l9 c9 k9
  have b9 := F9.binds (ps := ["thing", "ahead"]) fun _ _ _ _ _ _ us hl => match us, hl with | [_, _], _ => rfl
  have m9 := PySem.W.mg_of X G a9
  have F10 := fun_mk (st := sKinds) l10 c10 k10
  have b10 := F10.binds (ps := ["thing"]) fun _ _ _ _ _ _ us hl => match us, hl with | [_], _ => rfl
  have m10 := PySem.W.mg_of X G a10
  have F11 := fun_mk (st := sLate) l11 c11 k11
  have b11 := F11.binds (ps := ["kinds", "thing"]) fun _ _ _ _ _ _ us hl => match us, hl with | [_, _], _ => rfl
  have m11 := PySem.W.mg_of X G a11
  have F12 := fun_mk (st := sAgree) l12 c12 k12
  have b12 := F12.binds (ps := ["program"]) fun _ _ _ _ _ _ us hl => match us, hl with | [_], _ => rfl
  have m12 := PySem.W.mg_of X G a12
  have F13 := fun_mk (st := sFits) l13 c13 k13
  have b13 := F13.binds (ps := ["program", "body", "part", "thing"]) fun _ _ _ _ _ _ us hl => match us, hl with | [_, _, _, _], _ => rfl
  have m13 := PySem.W.mg_of X G a13
  have F14 := fun_mk (st := sRow) l14 c14 k14
  have b14 := F14.binds (ps := ["program", "body", "thing"]) fun _ _ _ _ _ _ us hl => match us, hl with | [_, _, _], _ => rfl
  have m14 := PySem.W.mg_of X G a14
  have F15 := fun_mk (st := sRoom) l15 c15 k15
  have b15 := F15.binds (ps := ["program", "body", "rows", "room", "nested"]) fun _ _ _ _ _ _ us hl => match us, hl with | [_, _, _, _, _], _ => rfl
  have m15 := PySem.W.mg_of X G a15
  have F16 := fun_mk (st := sBfit) l16 c16 k16
  have b16 := F16.binds (ps := ["program"]) fun _ _ _ _ _ _ us hl => match us, hl with | [_], _ => rfl
  have m16 := PySem.W.mg_of X G a16
  have F17 := fun_mk (st := sIsP) l17 c17 k17
  have b17 := F17.binds (ps := ["thing"]) fun _ _ _ _ _ _ us hl => match us, hl with | [_], _ => rfl
  have m17 := PySem.W.mg_of X G a17
  have F18 := fun_mk (st := sHand) l18 c18 k18
  have b18 := F18.binds (ps := ["_law_script", "_law_k"]) fun _ _ _ _ _ _ us hl => match us, hl with | [_, _], _ => rfl
  have m18 := PySem.W.mg_of X G a18
  have F19 := fun_mk (st := sTake) l19 c19 k19
  have b19 := F19.binds (ps := ["_law_hand_here", "_law_many"]) fun _ _ _ _ _ _ us hl => match us, hl with | [_, _], _ => rfl
  have m19 := PySem.W.mg_of X G a19
  have F20 := fun_mk (st := sLWord) l20 c20 k20
  have b20 := F20.binds (ps := ["_law_number", "_law_long"]) fun _ _ _ _ _ _ us hl => match us, hl with | [_, _], _ => rfl
  have m20 := PySem.W.mg_of X G a20
  have F21 := fun_mk (st := sBuilt) l21 c21 k21
  have b21 := F21.binds (ps := ["_law_many", "_law_deeds", "_law_params", "_law_late", "_law_rows", "_law_deep", "_law_long"]) fun _ _ _ _ _ _ us hl => match us, hl with | [_, _, _, _, _, _, _], _ => rfl
  have m21 := PySem.W.mg_of X G a21
  have F22 := fun_mk (st := sFull) l22 c22 k22
  have b22 := F22.binds (ps := ["_law_rows"]) fun _ _ _ _ _ _ us hl => match us, hl with | [_], _ => rfl
  have m22 := PySem.W.mg_of X G a22
  have F23 := fun_mk (st := sLaw) l23 c23 k23
  have y1 := PySem.W.mg_none_of X G z1
  have y2 := PySem.W.mg_none_of X G z2
  have y3 := PySem.W.mg_none_of X G z3
  have y4 := PySem.W.mg_none_of X G z4
  have y5 := PySem.W.mg_none_of X G z5
  have y6 := PySem.W.mg_none_of X G z6
  have y7 := PySem.W.mg_none_of X G z7
  have y8 := PySem.W.mg_none_of X G z8
  have y9 := PySem.W.mg_none_of X G z9
  have y10 := PySem.W.mg_none_of X G z10
  have y11 := PySem.W.mg_none_of X G z11
  have y12 := PySem.W.mg_none_of X G z12
  have y13 := PySem.W.mg_none_of X G z13
  have y14 := PySem.W.mg_none_of X G z14
  have y15 := PySem.W.mg_none_of X G z15
  have y16 := PySem.W.mg_none_of X G z16
  have kd := kdict_of (P := l.prog) (w := w) (es := [("make", tp1, rp1), ("copy", tp2, rp2), ("put", tp3, rp3), ("take", tp4, rp4), ("say", tp5, rp5), ("call", tp6, rp6), ("either", tp7, rp7), ("again", tp8, rp8), ("bring", tp9, rp9)]) sP lP rfl (show (["make", "copy", "put", "take", "say", "call", "either", "again", "bring"] : List Str).Nodup by decide +kernel)
  have v1 : valV [((Sum.inr "make" : Key), V.ref rp1), ((Sum.inr "copy" : Key), V.ref rp2), ((Sum.inr "put" : Key), V.ref rp3), ((Sum.inr "take" : Key), V.ref rp4), ((Sum.inr "say" : Key), V.ref rp5), ((Sum.inr "call" : Key), V.ref rp6), ((Sum.inr "either" : Key), V.ref rp7), ((Sum.inr "again" : Key), V.ref rp8), ((Sum.inr "bring" : Key), V.ref rp9)] (.inr "say") = some (.ref rp5) := by rw [valV_ne (by decide +kernel)]; rw [valV_ne (by decide +kernel)]; rw [valV_ne (by decide +kernel)]; rw [valV_ne (by decide +kernel)]; exact valV_eq
  have v2 : valV [((Sum.inr "make" : Key), V.ref rp1), ((Sum.inr "copy" : Key), V.ref rp2), ((Sum.inr "put" : Key), V.ref rp3), ((Sum.inr "take" : Key), V.ref rp4), ((Sum.inr "say" : Key), V.ref rp5), ((Sum.inr "call" : Key), V.ref rp6), ((Sum.inr "either" : Key), V.ref rp7), ((Sum.inr "again" : Key), V.ref rp8), ((Sum.inr "bring" : Key), V.ref rp9)] (.inr "again") = some (.ref rp8) := by rw [valV_ne (by decide +kernel)]; rw [valV_ne (by decide +kernel)]; rw [valV_ne (by decide +kernel)]; rw [valV_ne (by decide +kernel)]; rw [valV_ne (by decide +kernel)]; rw [valV_ne (by decide +kernel)]; rw [valV_ne (by decide +kernel)]; exact valV_eq
  refine ⟨PySem.W.fnOf "law" "law" (defArgs sLaw) (defBody sLaw) (defScope sLaw) .none kV23 dc23 pm23 an23 cd23 ct23, fun s v => .of_eq rfl, fun base _ _ => ?_⟩
  have Tk : ∀ k : Nat, Cal l.prog w K mg base (k + 1) "_law_take" ["_law_hand_here", "_law_many"] spTake := fun k => ⟨_, _, ok_take F19, b19, k19, m19⟩
  have Hn : ∀ k : Nat, Cal l.prog w K mg base (k + 1) "_law_hand" ["_law_script", "_law_k"] (spHand K) := fun k => ⟨_, _, ok_hand F18 y1 y2 y3, b18, k18, m18⟩
  have Lw : ∀ k : Nat, Cal l.prog w K mg base (k + 1) "_law_word" ["_law_number", "_law_long"] spLWord := fun k => ⟨_, _, ok_lword F20, b20, k20, m20⟩
  have Bu : ∀ k : Nat, Cal l.prog w K mg base (k + 2) "_law_built" ["_law_many", "_law_deeds", "_law_params", "_law_late", "_law_rows", "_law_deep", "_law_long"] spBuilt := fun k => ⟨_, _, ok_built F21 (Lw k) y4 y5 y1 y13, b21, k21, m21⟩
  have Fu : ∀ k : Nat, Cal l.prog w K mg base (k + 2) "_law_full" ["_law_rows"] spFull := fun k => ⟨_, _, ok_full F22 (Lw k) y5 y12, b22, k22, m22⟩
  have Wo : ∀ k : Nat, Cal l.prog w K mg base (k + 1) "is_word" ["thing"] spWord := fun k => ⟨_, _, ok_word F3 g1 y9 y11 y1 y7, b3, k3, m3⟩
  have Tu : ∀ k : Nat, Cal l.prog w K mg base (k + 1) "is_tuple" ["thing", "least", "most"] (spTupT K) := fun k => ⟨_, _, ok_tup F4 y9 y5 y1, b4, k4, m4⟩
  have Un : ∀ k : Nat, Cal l.prog w K mg base (k + 1) "are_unlike" ["words"] (spUnl K) := fun k => ⟨_, _, ok_unl F5 y1 y16, b5, k5, m5⟩
  have Pa : ∀ k : Nat, Cal l.prog w K mg base (k + 2) "are_params" ["thing"] spPar := fun k => ⟨_, _, ok_par F6 (Tu k) (Wo k) (Un k) g4 mO y7, b6, k6, m6⟩
  have De : ∀ k : Nat, Cal l.prog w K mg base (k + 3) "is_deed" ["thing"] spDeed := fun k => ⟨_, _, ok_deed F7 (Tu (k + 1)) (Wo (k + 1)) (Pa k), b7, k7, m7⟩
  have Ds : ∀ k : Nat, Cal l.prog w K mg base (k + 4) "are_deeds" ["thing"] spDeeds := fun k => ⟨_, _, ok_deeds F8 (Tu (k + 2)) (De k) (Un (k + 2)) g3 y7, b8, k8, m8⟩
  have Ki : ∀ k : Nat, Cal l.prog w K mg base (k + 5) "is_kind" ["thing", "ahead"] spKind := fun k => ⟨_, _, ok_kind F9 (Tu (k + 3)) (Wo (k + 3)) (Ds k), b9, k9, m9⟩
  have Ks : ∀ k : Nat, Cal l.prog w K mg base (k + 6) "are_kinds" ["thing"] (spKinds K) := fun k => ⟨_, _, ok_kinds F10 (Tu (k + 4)) (Ki k) g2, b10, k10, m10⟩
  have La : ∀ k : Nat, Cal l.prog w K mg base (k + 2) "are_late" ["kinds", "thing"] spLate := fun k => ⟨_, _, ok_late F11 (Tu k) (Wo k) g5 y7 y6 y13 y16, b11, k11, m11⟩
  have Ag : ∀ k : Nat, Cal l.prog w K mg base (k + 1) "deeds_agree" ["program"] spAgree := fun k => ⟨_, _, ok_agree F12, b12, k12, m12⟩
  have Fi : ∀ k : Nat, Cal l.prog w K mg base (k + 2) "part_fits" ["program", "body", "part", "thing"] spFits := fun k => ⟨_, _, ok_fits F13 (Tu k) (Wo k) g6, b13, k13, m13⟩
  have Ro : ∀ k : Nat, Cal l.prog w K mg base (k + 3) "is_row" ["program", "body", "thing"] spRow := fun k => ⟨_, _, ok_row F14 (Fi k) mP kd v1 v2 (sqt_of1 lW) (sqt_of1 lR) y9 y5 y11 y1 y7 y8, b14, k14, m14⟩
  have Wi : ∀ k : Nat, Cal l.prog w K mg base (k + 1) "rows_within" ["row"] spWithin := fun k => ⟨_, _, ok_within F2 mH (sqt_of lH), b2, k2, m2⟩
  have Rm : ∀ (n k : Nat), Cal l.prog w K mg base (k + 4 + n) "room_behind" pRoom (spRoom n) := by
    intro n
    induction n with
    | zero => intro k; exact ⟨_, _, ok_room F15 (Tu (k + 2)) (Ro k) (Wi (k + 2)) ⟨_, _, ok_neverR F15, b15, k15, m15⟩ g6 g8 g9, b15, k15, m15⟩
    | succ n ih =>
      intro k
      have t := Tu (k + 3 + n)
      have ro := Ro (k + 1 + n)
      have wi := Wi (k + 3 + n)
      rw [show k + 3 + n + 1 = k + 4 + n by omega] at t wi
      rw [show k + 1 + n + 3 = k + 4 + n by omega] at ro
      exact ⟨_, _, ok_room F15 t ro wi (ih k) g6 g8 g9, b15, k15, m15⟩
  have Bo : ∀ k : Nat, Cal l.prog w K mg base (k + 1) "bodies" ["program"] spBodies := fun k => ⟨_, _, ok_bodies F1 mM y5, b1, k1, m1⟩
  have Bf : ∀ k : Nat, Cal l.prog w K mg base (k + 9) "bodies_fit" ["program"] spBfit := fun k => ⟨_, _, ok_bfit F16 (Bo (k + 7)) (Rm 4 k) g7 g9, b16, k16, m16⟩
  have Ip : ∀ k : Nat, Cal l.prog w K mg base (k + 10) "is_program" ["thing"] (spIsP K) := fun k => ⟨_, _, ok_isp F17 (Tu (k + 8)) (Ks (k + 3)) (La (k + 7)) (Ag (k + 8)) (Bf k), b17, k17, m17⟩
  exact ok_law F23 (Hn 63) (Tk 63) (Bu 62) (Fu 62) (Ip 54) y1 y4 y14 y15 y6 y7 y8 y9 y10
theorem walk {l : PySem.W.OpenLaw} {q : Program} {loose : List Str} {XP : (Str → Option Value) → Heap → Prop} {YP : World → Heap → Prop} {d : DefRec} {K : Params → PySem.W.Frag} (hn : l.most = some 63) (hdf : d.params.defaults = [])
    (hY : ∀ (w : World) (h : Heap), YP w h → (K w.params).In h)
    (F : ∀ (w : World) (mg : Str → Option Value) (fa : Addr) (h : Heap), (K w.params).In h → h.Ns mainGlobals mg → mg d.name = some (.ref fa) →
      ∃ fd : FuncData, (∀ (s : Shared) (u : Value), BindsTo s fd ⟨[u], []⟩ [("_law_script", u)]) ∧ ∀ base : Heap, (K w.params).In base → base.Ns mainGlobals mg → FnOk l.prog w (K w.params) mg base CX0 65 fa fd ["_law_script"] (spLaw (K w.params))) :
    PySem.W.WalkO q loose XP YP l.row.toRowW d [] (fun f vs => PySem.call f vs) :=
  L2.walk_of (n := 63) (k := 65) (x := "_law_script") (CX := fun _ => CX0) (sp := fun w => spLaw (K w.params)) hn (by decide) hdf ⟨rfl, by decide, by decide⟩ hY F (fun _ _ a ns hl _ hS => ⟨a, ns, rfl, hS, hl, fun _ => rfl⟩) fun _ _ _ _ _ z => z
end Gn
open PySem PySem.W PyProof.Rows
set_option maxRecDepth 100000 in
set_option maxHeartbeats 0 in
theorem PySem.Challenge.cw_surecall_k04_programs_at_their_bounds_holds : PySem.Challenge.rw_surecall_k04_programs_at_their_bounds.Holds := by
  w_on; o_law; k_head; (case hw => w_witness2)
  k_fill
  refine Gn.walk (l := PySem.Challenge.rw_surecall_k04_programs_at_their_bounds) rfl rfl (fun w h Y => PySem.W.kIn_of Y) ?F
  case F =>
    intro w mg fa h KX G hmg
    refine' Gn.all_mk KX G hmg ?a1 ?l1 ?c1 ?k1 ?a2 ?l2 ?c2 ?k2 ?a3 ?l3 ?c3 ?k3 ?a4 ?l4 ?c4 ?k4 ?a5 ?l5 ?c5 ?k5 ?a6 ?l6 ?c6 ?k6 ?a7 ?l7 ?c7 ?k7 ?a8 ?l8 ?c8 ?k8 ?a9 ?l9 ?c9 ?k9 ?a10 ?l10 ?c10 ?k10 ?a11 ?l11 ?c11 ?k11 ?a12 ?l12 ?c12 ?k12 ?a13 ?l13 ?c13 ?k13 ?a14 ?l14 ?c14 ?k14 ?a15 ?l15 ?c15 ?k15 ?a16 ?l16 ?c16 ?k16 ?a17 ?l17 ?c17 ?k17 ?a18 ?l18 ?c18 ?k18 ?a19 ?l19 ?c19 ?k19 ?a20 ?l20 ?c20 ?k20 ?a21 ?l21 ?c21 ?k21 ?a22 ?l22 ?c22 ?k22 ?a23 ?l23 ?c23 ?k23 ?aM ?aH ?lH ?aO ?e1 ?e2 ?e3 ?e4 ?e5 ?e6 ?e7 ?e8 ?e9 ?aP ?sP ?lP ?lW ?lR ?z1 ?z2 ?z3 ?z4 ?z5 ?z6 ?z7 ?z8 ?z9 ?z10 ?z11 ?z12 ?z13 ?z14 ?z15 ?z16
    (case a1 => k_is); (case l1 => k_is); (case c1 => k_is); (case k1 => k_is)
    (case a2 => k_is); (case l2 => k_is); (case c2 => k_is); (case k2 => k_is)
    (case a3 => k_is); (case l3 => k_is); (case c3 => k_is); (case k3 => k_is)
    (case a4 => k_is); (case l4 => k_is); (case c4 => k_is); (case k4 => k_is)
    (case a5 => k_is); (case l5 => k_is); (case c5 => k_is); (case k5 => k_is)
    (case a6 => k_is); (case l6 => k_is); (case c6 => k_is); (case k6 => k_is)
    (case a7 => k_is); (case l7 => k_is); (case c7 => k_is); (case k7 => k_is)
    (case a8 => k_is); (case l8 => k_is); (case c8 => k_is); (case k8 => k_is)
    (case a9 => k_is); (case l9 => k_is); (case c9 => k_is); (case k9 => k_is)
    (case a10 => k_is); (case l10 => k_is); (case c10 => k_is); (case k10 => k_is)
    (case a11 => k_is); (case l11 => k_is); (case c11 => k_is); (case k11 => k_is)
    (case a12 => k_is); (case l12 => k_is); (case c12 => k_is); (case k12 => k_is)
    (case a13 => k_is); (case l13 => k_is); (case c13 => k_is); (case k13 => k_is)
    (case a14 => k_is); (case l14 => k_is); (case c14 => k_is); (case k14 => k_is)
    (case a15 => k_is); (case l15 => k_is); (case c15 => k_is); (case k15 => k_is)
    (case a16 => k_is); (case l16 => k_is); (case c16 => k_is); (case k16 => k_is)
    (case a17 => k_is); (case l17 => k_is); (case c17 => k_is); (case k17 => k_is)
    (case a18 => k_is); (case l18 => k_is); (case c18 => k_is); (case k18 => k_is)
    (case a19 => k_is); (case l19 => k_is); (case c19 => k_is); (case k19 => k_is)
    (case a20 => k_is); (case l20 => k_is); (case c20 => k_is); (case k20 => k_is)
    (case a21 => k_is); (case l21 => k_is); (case c21 => k_is); (case k21 => k_is)
    (case a22 => k_is); (case l22 => k_is); (case c22 => k_is); (case k22 => k_is)
    (case a23 => k_is); (case l23 => k_is); (case c23 => k_is); (case k23 => k_is)
    (case aM => k_is); (case aH => k_is); (case lH => k_is); (case aO => k_is)
    (case e1 => k_is); (case e2 => k_is); (case e3 => k_is); (case e4 => k_is); (case e5 => k_is); (case e6 => k_is); (case e7 => k_is); (case e8 => k_is); (case e9 => k_is)
    (case aP => k_is); (case sP => decide); (case lP => k_is); (case lW => k_is); (case lR => k_is)
    (case z1 => k_is); (case z2 => k_is); (case z3 => k_is); (case z4 => k_is); (case z5 => k_is); (case z6 => k_is); (case z7 => k_is); (case z8 => k_is); (case z9 => k_is); (case z10 => k_is); (case z11 => k_is); (case z12 => k_is); (case z13 => k_is); (case z14 => k_is); (case z15 => k_is); (case z16 => k_is)
#print axioms PySem.Challenge.cw_surecall_k04_programs_at_their_bounds_holds
end
