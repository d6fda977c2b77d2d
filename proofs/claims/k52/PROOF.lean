import PyProof.Rows.All
import Wide.All
import OpenK.AllK
import Wide.FinOn
import Lean
import PyProof.EqAt
import PyProof.EqKinds
import PyProof.TupleCall
import PyProof.FactsAll.dict
import PyProof.Rows.SeqMore
import PyProof.Rows.StrCase
import PyProof.ToksMono
import PyProof.AutoIntG2
import PyProof.DictIter
import PyProof.DictWalks
import PyProof.SeqI3
import KE.KMinKey
import PyProof.ListNew
import PyProof.AutoListH
import PyProof.FactsAll.list_2
import PySem.Challenge.RW_besidewords_k52_the_price_of_a_way
set_option Elab.async false
set_option linter.all false
set_option maxRecDepth 100000
/-! THE HAND LAYER, for ints, bools, texts, own classes, LISTS and tuples (index, slices, in, append, pop ..), calls, loops. Paste it whole ahead of your own text; what your proof does not reach may be deleted. -/
namespace L2
open PySem PySem.Spec PyProof.Rows

/-- a key: an int or a str -/
abbrev Key := Sum Int Str
def keyIs : Key → Value → Bool
  | .inl k, v => Value.isInt k v
  | .inr x, v => Value.isStrOf x v
def keyH (w : World) : Key → Int
  | .inl k => hashInt k
  | .inr x => hashStr w x
theorem keyIs_shape : ∀ {k : Key} {v : Value}, keyIs k v = true → (∃ i t, k = Sum.inl i ∧ v = Value.int i t) ∨ (∃ x t, k = Sum.inr x ∧ v = Value.str x t)
  | .inl i, v, h => by
    obtain ⟨t, e⟩ := Value.isInt_shape (k := i) (v := v) h
    exact .inl ⟨i, t, rfl, e⟩
  | .inr x, v, h => by
    obtain ⟨t, e⟩ := Value.isStrOf_shape (x := x) (v := v) h
    exact .inr ⟨x, t, rfl, e⟩
theorem keyIs_int (i : Int) (t : Tok) : keyIs (.inl i) (.int i t) = true := by simp [keyIs, Value.isInt]
theorem keyIs_str (x : Str) (t : Tok) : keyIs (.inr x) (.str x t) = true := by simp [keyIs, Value.isStrOf]
theorem key_ll (a b : Int) : decide ((Sum.inl a : Key) = Sum.inl b) = (a == b) := by
  by_cases e : a = b
  · subst e; simp
  · have h : ¬ (Sum.inl a : Key) = Sum.inl b := fun q => e (Sum.inl.inj q)
    rw [decide_eq_false h]
    exact (beq_eq_false_iff_ne.mpr e).symm
theorem key_rr (a b : Str) : decide ((Sum.inr a : Key) = Sum.inr b) = decide (a = b) := by
  by_cases e : a = b
  · subst e; simp
  · have h : ¬ (Sum.inr a : Key) = Sum.inr b := fun q => e (Sum.inr.inj q)
    rw [decide_eq_false h, decide_eq_false e]
theorem key_lr (a : Int) (b : Str) : decide ((Sum.inl a : Key) = Sum.inr b) = false := decide_eq_false (fun q => nomatch q)
theorem key_rl (a : Str) (b : Int) : decide ((Sum.inr a : Key) = Sum.inl b) = false := decide_eq_false (fun q => nomatch q)

def mixKind (prog : Program) (w : World) : PySem.KeyKind prog w Key where
  is := keyIs
  hash := keyH w
  inj := fun v a b ha hb => by
    rcases keyIs_shape ha with ⟨i, t, rfl, rfl⟩ | ⟨x, t, rfl, rfl⟩
    · rcases keyIs_shape hb with ⟨j, u, rfl, e⟩ | ⟨y, u, rfl, e⟩
      · injection e with e1 _; rw [e1]
      · exact nomatch e
    · rcases keyIs_shape hb with ⟨j, u, rfl, e⟩ | ⟨y, u, rfl, e⟩
      · exact nomatch e
      · injection e with e1 _; rw [e1]
  byValue := fun k v h => by
    rcases keyIs_shape h with ⟨i, t, rfl, rfl⟩ | ⟨x, t, rfl, rfl⟩ <;> rfl
  pyHash := fun hv h => by
    rcases keyIs_shape hv with ⟨i, t, rfl, rfl⟩ | ⟨x, t, rfl, rfl⟩
    · exact wpAny_pyHash_int h
    · exact wpAny_pyHash_str h
  eqBool := fun hu hv h => by
    rcases keyIs_shape hu with ⟨i, t, rfl, rfl⟩ | ⟨x, t, rfl, rfl⟩
    · rcases keyIs_shape hv with ⟨j, u, rfl, rfl⟩ | ⟨y, u, rfl, rfl⟩
      · rw [key_ll] at h; exact wpAny_eqBool_int h
      · rw [key_lr] at h; exact SeqAt.EqAt.int_str i t y u _ _ _ _ h
    · rcases keyIs_shape hv with ⟨j, u, rfl, rfl⟩ | ⟨y, u, rfl, rfl⟩
      · rw [key_rl] at h; exact SeqAt.EqAt.str_int x t j u _ _ _ _ h
      · rw [key_rr] at h; exact wpAny_eqBool_str h
  «strs» := fun k x t v h => by
    rcases keyIs_shape h with ⟨i, u, rfl, e⟩ | ⟨y, u, rfl, e⟩
    · exact nomatch e
    · injection e with e1 _
      subst e1
      cases v <;> rfl

theorem mixKind_int (prog : Program) (w : World) (i : Int) (t : Tok) : (mixKind prog w).is (.inl i) (.int i t) = true := keyIs_int i t
theorem mixKind_str (prog : Program) (w : World) (x : Str) (t : Tok) : (mixKind prog w).is (.inr x) (.str x t) = true := keyIs_str x t
end L2

namespace L2
open PySem PySem.Spec PyProof.Rows

/-- a value, without the heap -/
inductive V where
  | non | bl (b : Bool) | int (i : Int) | str (x : Str) | byt (b : Array UInt8) | flt (b : UInt64) | ref (a : Addr) | ty (n : String)
  deriving DecidableEq

def RelV : V → Value → Prop
  | .non, u => u = Value.none
  | .bl b, u => u = Value.bool b
  | .int i, u => ∃ t, u = Value.int i t
  | .str x, u => ∃ t, u = Value.str x t
  | .byt b, u => ∃ t, u = Value.bytes b t
  | .flt b, u => ∃ t, u = Value.float b t
  | .ref a, u => u = Value.ref a
  | .ty n, u => u = Value.type n

abbrev Vals : List V → List Value → Prop := Paired RelV
theorem Vals.length {xs : List V} {us : List Value} (r : Vals xs us) : xs.length = us.length := Paired.length r
theorem Vals.get : ∀ {xs : List V} {us : List Value} {i : Nat} {x : V}, Vals xs us → xs[i]? = some x → ∃ u, us[i]? = some u ∧ RelV x u
  | _, _, _, _, .nil, e => by simp at e
  | _, _, 0, _, .cons r _, e => by simp at e; subst e; exact ⟨_, rfl, r⟩
  | _, _, i + 1, x, .cons _ t, e => by
    obtain ⟨u, h1, h2⟩ := Vals.get (i := i) (x := x) t (by simpa using e)
    exact ⟨u, by simpa using h1, h2⟩
theorem Vals.set {x : V} {u : Value} (r : RelV x u) : ∀ {xs : List V} {us : List Value} (i : Nat), Vals xs us → Vals (xs.set i x) (us.set i u)
  | _, _, _, .nil => .nil
  | _, _, 0, .cons _ t => .cons r t
  | _, _, i + 1, .cons q t => .cons q (Vals.set r i t)
theorem Vals.append : ∀ {xs ys : List V} {us ws : List Value}, Vals xs us → Vals ys ws → Vals (xs ++ ys) (us ++ ws)
  | _, _, _, _, .nil, s => s
  | _, _, _, _, .cons r t, s => .cons r (Vals.append t s)
theorem Vals.take : ∀ {xs : List V} {us : List Value} (n : Nat), Vals xs us → Vals (xs.take n) (us.take n)
  | _, _, 0, _ => .nil
  | _, _, _ + 1, .nil => .nil
  | _, _, n + 1, .cons r t => .cons r (Vals.take n t)
theorem Vals.drop : ∀ {xs : List V} {us : List Value} (n : Nat), Vals xs us → Vals (xs.drop n) (us.drop n)
  | _, _, 0, r => r
  | _, _, _ + 1, .nil => .nil
  | _, _, n + 1, .cons _ t => Vals.drop n t
def RelO : Option V → Option Value → Prop
  | some v, some u => RelV v u
  | none, none => True
  | _, _ => False
def KV {κ : Type} : List (κ × V) → List (κ × Value) → Prop := Paired fun (p : κ × V) (q : κ × Value) => p.1 = q.1 ∧ RelV p.2 q.2

/-- a key of a dict (00_mix): an int or a text -/
def kV : Key → V
  | .inl i => .int i
  | .inr x => .str x

/-- what stands at a tracked address -/
inductive HO where
  /-- a list -/
  | lst (xs : List V)
  /-- a tuple (never changes) -/
  | tup (xs : List V)
  /-- a dict whose keys are ints and texts; one whose keys are tuples of ints and texts (the empty one is both) -/
  | dK (kvs : List (Key × V)) | dT (kvs : List (List Key × V))
  /-- a set of ints: its members, its size -/
  | set (S : Int → Bool) (n : Nat)
  /-- an instance of the class at C, its dict at dx, its attributes -/
  | ins (C dx : Addr) (fs : List (Str × V))
  /-- the dict of the instance at x -/
  | own (x : Addr)
  /-- the dict of an exception -/
  | xd (fs : List (Str × V))
  /-- a bound method, f of x -/
  | met (f x : Addr)
  /-- a range object lo, lo + 1, .. below hi -/
  | rng (lo hi : Int)
  /-- a thing that is known to the object (the script; a dict while a loop walks it): read, never written while it is so -/
  | frz (o : Obj) (u : HO)
  /-- a code object's table -/
  | tbl (ps : Array Value)
  /-- any other thing, by what is true of its one object (a def of one's own: SetO a S n := HO.ext fun h => ..) -/
  | ext (φ : Heap → Prop)

abbrev Hp := Addr → Option HO
def upd (H : Hp) (a : Addr) (o : HO) : Hp := fun b => if b = a then some o else H b
theorem upd_same {H : Hp} {a : Addr} {o : HO} : upd H a o a = some o := by unfold upd; rw [if_pos rfl]
theorem upd_ne {H : Hp} {a b : Addr} {o : HO} (h : b ≠ a) : upd H a o b = H b := by unfold upd; rw [if_neg h]
/-- two objects of different content stand apart -/
theorem ne_of {H : Hp} {a b : Addr} {o u : HO} (h : H a = some o) (h' : H b = some u) (d : o ≠ u) : a ≠ b := by
  intro e; subst e; rw [h] at h'; exact d (Option.some.inj h')
theorem ne_of_none {H : Hp} {a b : Addr} {o : HO} (h : H a = some o) (h' : H b = none) : a ≠ b := by
  intro e; subst e; rw [h] at h'; cases h'

section
variable (P : Program) (w : World)
def ObjOk (H : Hp) (h : Heap) (a : Addr) : HO → Prop
  | .lst xs => xs.length ≤ sizeLine ∧ ∃ (its : List Value) (n : Nat), Vals xs its ∧ h.get? a = some { cls := .type "list", data := .seq its.toArray n }
  | .tup xs => xs.length ≤ sizeLine ∧ ∃ its : List Value, Vals xs its ∧ IsTup h a its.toArray
  | .dK kvs => kvs.length ≤ sizeLine ∧ (a == sysModules) = false ∧ ∃ vs, KV kvs vs ∧ h.DictOf (mixKind P w) a vs
  | .dT kvs => kvs.length ≤ sizeLine ∧ (a == sysModules) = false ∧ ∃ xs : List (List Key × Addr × Value),
      Paired (fun (p : List Key × V) (q : List Key × Addr × Value) => p.1 = q.1 ∧ H q.2.1 = some (.tup (p.1.map kV)) ∧ RelV p.2 q.2.2) kvs xs ∧
      ∃ o es ep, h.get? a = some o ∧ o.ExactDict ∧ o.data = .dict es ep ∧ es.toList = xs.map (entryOfKey (tupleKind (mixKind P w))) ∧ (xs.map (·.1)).Nodup
  | .set S n => h.SetOf (intKind P w) a S n
  | .ins C dx fs => H dx = some (.own a) ∧ fs.length ≤ 1000 ∧ dx ≠ a ∧ h.get? a = some (PySem.W.instObj C dx) ∧
      ∃ mA, h.Ns1 dx mA ∧ (∀ f, RelO (fs.lookup f) (mA f)) ∧ PySem.Within mA (fs.map (·.1))
  | .own _ => ∃ o, h.get? a = some o
  | .xd fs => ∃ mA, h.Ns1 a mA ∧ ∀ f, RelO (fs.lookup f) (mA f)
  | .rng lo hi => ∃ t u v, h.get? a = some { cls := .type "range", data := .fields #[.int lo t, .int hi u, .int 1 v] }
  | .frz o u => h.get? a = some o ∧ ObjOk H h a u
  | .tbl ps => h.get? a = some { cls := .none, data := .fields ps }
  | .met f x => h.get? a = some (PySem.W.methodObj (.ref f) (.ref x))
  | .ext φ => φ h ∧ (∃ o, h.get? a = some o) ∧ ∀ h1 h2 : Heap, φ h1 → (∀ o, h1.get? a = some o → h2.get? a = some o) → φ h2
/-- the abstract heap is held -/
def HOk (H : Hp) (h : Heap) : Prop := ∀ a o, H a = some o → ObjOk P w H h a o
end

section
variable {P : Program} {w : World} {H H' : Hp} {h h' : Heap} {a : Addr} {o : HO}
theorem ObjOk.lt (x : ObjOk P w H h a o) : a < h.objs.size := by
  cases o with
  | lst xs => obtain ⟨_, _, _, _, e⟩ := x; exact Heap.lt_size e
  | tup xs => obtain ⟨_, _, _, p⟩ := x; exact p.lt
  | dK kvs => obtain ⟨_, _, _, _, o, _, _, e, _⟩ := x; exact Heap.lt_size e
  | dT kvs => obtain ⟨_, _, _, _, o, _, _, e, _⟩ := x; exact Heap.lt_size e
  | set S n => obtain ⟨o, _, _, _, e, _⟩ := x; exact Heap.lt_size e
  | ins C dx fs => obtain ⟨_, _, _, e, _⟩ := x; exact Heap.lt_size e
  | own y => obtain ⟨_, e⟩ := x; exact Heap.lt_size e
  | xd fs => obtain ⟨_, ⟨_, _, _, e, _⟩, _⟩ := x; exact Heap.lt_size e
  | rng lo hi => obtain ⟨_, _, _, e⟩ := x; exact Heap.lt_size e
  | frz ob u => obtain ⟨e, _⟩ := x; exact Heap.lt_size e
  | tbl ps => exact Heap.lt_size (show h.get? a = some _ from x)
  | met f y => exact Heap.lt_size (show h.get? a = some _ from x)
  | ext φ => obtain ⟨_, ⟨_, e⟩, _⟩ := x; exact Heap.lt_size e
theorem Paired.mapP {α β : Type} {F G : α → β → Prop} : ∀ {l₁ : List α} {l₂ : List β}, Paired F l₁ l₂ → (∀ a b, F a b → G a b) → Paired G l₁ l₂
  | _, _, .nil, _ => .nil
  | _, _, .cons r t, f => .cons (f _ _ r) (Paired.mapP t f)
/-- what an object's description leans on: its own object, its own dict, the tuples -/
theorem ObjOk.stay (x : ObjOk P w H h a o) (k : ∀ b u, (b = a ∨ H b = some (.own a)) → h.get? b = some u → h'.get? b = some u)
    (ho : ∀ b, H b = some (.own a) → H' b = some (.own a)) (ht : ∀ b xs, H b = some (.tup xs) → H' b = some (.tup xs)) : ObjOk P w H' h' a o := by
  induction o with
  | lst xs => obtain ⟨z, its, n, r, e⟩ := x; exact ⟨z, its, n, r, k _ _ (.inl rfl) e⟩
  | tup xs => obtain ⟨z, its, r, ob, e, c⟩ := x; exact ⟨z, its, r, ob, k _ _ (.inl rfl) e, c⟩
  | dK kvs => obtain ⟨z, y, vs, r, ob, es, ep, e, c⟩ := x; exact ⟨z, y, vs, r, ob, es, ep, k _ _ (.inl rfl) e, c⟩
  | dT kvs =>
    obtain ⟨z, y, xs, r, ob, es, ep, e, c⟩ := x
    exact ⟨z, y, xs, Paired.mapP r fun p q z => ⟨z.1, ht _ _ z.2.1, z.2.2⟩, ob, es, ep, k _ _ (.inl rfl) e, c⟩
  | set S n => obtain ⟨ob, es, ep, t, e, c⟩ := x; exact ⟨ob, es, ep, t, k _ _ (.inl rfl) e, c⟩
  | ins C dx fs =>
    obtain ⟨d, z, ne, e, mA, ⟨od, es, ep, e2, c⟩, r⟩ := x
    exact ⟨ho _ d, z, ne, k _ _ (.inl rfl) e, mA, ⟨od, es, ep, k _ _ (.inr d) e2, c⟩, r⟩
  | own y => obtain ⟨ob, e⟩ := x; exact ⟨ob, k _ _ (.inl rfl) e⟩
  | xd fs => obtain ⟨mA, ⟨od, es, ep, e, c⟩, r⟩ := x; exact ⟨mA, ⟨od, es, ep, k _ _ (.inl rfl) e, c⟩, r⟩
  | rng lo hi => obtain ⟨t, u, v, e⟩ := x; exact ⟨t, u, v, k _ _ (.inl rfl) e⟩
  | frz ob u ih => obtain ⟨e, q⟩ := x; exact ⟨k _ _ (.inl rfl) e, ih q⟩
  | tbl ps =>
    have e : h.get? a = some { cls := .none, data := .fields ps } := x
    show h'.get? a = some { cls := .none, data := .fields ps }
    exact k a _ (.inl rfl) e
  | met f y =>
    have e : h.get? a = some (PySem.W.methodObj (.ref f) (.ref y)) := x
    show h'.get? a = some (PySem.W.methodObj (.ref f) (.ref y))
    exact k a _ (.inl rfl) e
  | ext φ => obtain ⟨p, ⟨o, e⟩, st⟩ := x; exact ⟨st _ _ p fun o q => k _ _ (.inl rfl) q, ⟨o, k _ _ (.inl rfl) e⟩, st⟩
theorem HOk.lt (x : HOk P w H h) (e : H a = some o) : a < h.objs.size := (x a o e).lt
theorem HOk.fresh (x : HOk P w H h) (e : h.objs.size ≤ a) : H a = none := by
  cases q : H a with
  | none => rfl
  | some u => exact absurd (Nat.lt_of_lt_of_le (x.lt q) e) (Nat.lt_irrefl _)
/-- every object of the heap is kept -/
theorem HOk.kept (x : HOk P w H h) (k : ∀ b u, h.get? b = some u → h'.get? b = some u) : HOk P w H h' := fun a o e =>
  (x a o e).stay (fun b u _ q => k b u q) (fun _ q => q) fun _ _ q => q
/-- a new object is laid and tracked -/
theorem HOk.laid (x : HOk P w H h) (k : ∀ b u, h.get? b = some u → h'.get? b = some u) (hp : h.objs.size ≤ a) (new : ObjOk P w (upd H a o) h' a o) : HOk P w (upd H a o) h' := fun b u e => by
  have hn := x.fresh hp
  by_cases hb : b = a
  · subst hb; rw [upd_same] at e; cases e; exact new
  · rw [upd_ne hb] at e
    exact (x b u e).stay (fun c v _ q => k c v q) (fun c q => by rw [upd_ne (ne_of_none q hn)]; exact q) fun c xs q => by rw [upd_ne (ne_of_none q hn)]; exact q
end

/-- what may be read as u: it is u, or a known u -/
def Rd (H : Hp) (a : Addr) (u : HO) : Prop := H a = some u ∨ ∃ o, H a = some (.frz o u)
theorem Rd.of {H : Hp} {a : Addr} {u : HO} (h : H a = some u) : Rd H a u := .inl h
theorem Rd.ok {P : Program} {w : World} {H : Hp} {h : Heap} {a : Addr} {u : HO} (r : Rd H a u) (x : HOk P w H h) : ObjOk P w H h a u := by
  rcases r with r | ⟨o, r⟩
  · exact x a u r
  · obtain ⟨_, q⟩ := x a _ r
    exact q
/-- what may be written -/
def Mut : Option HO → Prop
  | some (.lst _) => True
  | some (.dK _) => True
  | some (.dT _) => True
  | some (.set _ _) => True
  | some (.ins _ _ _) => True
  | some (.ext _) => True
  | _ => False
section
variable {P : Program} {w : World} {H : Hp} {h h' : Heap} {x e : Addr} {o' : HO}
/-- the object at e is changed: x itself, or the dict of the instance x -/
theorem HOk.write (ok : HOk P w H h) (mu : Mut (H x)) (he : e = x ∨ H e = some (.own x)) (k : ∀ b u, b ≠ e → h.get? b = some u → h'.get? b = some u) (heo : ∃ u, h'.get? e = some u)
    (new : ObjOk P w (upd H x o') h' x o') : HOk P w (upd H x o') h' := fun b u q => by
  have nown : ∀ c y, H c = some (.own y) → c ≠ x := fun c y r z => by subst z; rw [r] at mu; exact mu
  have ntup : ∀ c xs, H c = some (.tup xs) → c ≠ x := fun c xs r z => by subst z; rw [r] at mu; exact mu
  by_cases hb : b = x
  · subst hb; rw [upd_same] at q; cases q; exact new
  · rw [upd_ne hb] at q
    by_cases hbe : b = e
    · have q' : H b = some (.own x) := by
        rcases he with z | z
        · exact absurd (hbe.trans z) hb
        · rw [hbe]; exact z
      rw [q] at q'; cases q'
      obtain ⟨v, hv⟩ := heo
      exact ⟨v, by rw [hbe]; exact hv⟩
    · refine (ok b u q).stay (fun c v hc r => k c v ?_ r) (fun c r => by rw [upd_ne (nown c b r)]; exact r) fun c xs r => by rw [upd_ne (ntup c xs r)]; exact r
      rcases hc with rfl | hc
      · exact hbe
      · rintro rfl
        rcases he with z | z
        · exact nown c b hc z
        · rw [hc] at z; cases z; exact hb rfl
end

/-! ### kept unless tracked; of the frames at fs (the callers') the slots may change (an exception that passes writes there); of the records at ex (iterators) nothing is said -/
structure Un (fs ex : List Addr) (H H' : Hp) (h h' : Heap) : Prop where
  keep : ∀ b o, h.get? b = some o → H b = none → b ∉ fs → b ∉ ex → h'.get? b = some o
  slot : ∀ b o, h.get? b = some o → H b = none → b ∈ fs → b ∉ ex → ∃ sl, h'.get? b = some { o with slots := sl }
  free : ∀ b o, h.get? b = some o → H b = none → b ∉ ex → H' b = none
  there : ∀ b o, h.get? b = some o → b ∉ ex → ∃ o', h'.get? b = some o'
  tups : ∀ b xs, H b = some (.tup xs) → H' b = some (.tup xs)
  frzs : ∀ b o u, H b = some (.frz o u) → H' b = some (.frz o u)
  tbls : ∀ b ps, H b = some (.tbl ps) → ∃ more, H' b = some (.tbl (ps ++ more))
section
variable {fs fs' ex ex' : List Addr} {H H1 H2 : Hp} {h h1 h2 h' : Heap} {a x e : Addr} {o : HO}
theorem Un.any (u : Un fs ex H H1 h h1) {b : Addr} {ob : Obj} (q : h.get? b = some ob) (n : H b = none) (hx : b ∉ ex) : ∃ sl, h1.get? b = some { ob with slots := sl } := by
  by_cases hb : b ∈ fs
  · exact u.slot b ob q n hb hx
  · exact ⟨ob.slots, u.keep b ob q n hb hx⟩
theorem Un.trans (a : Un fs ex H H1 h h1) (b : Un fs ex H1 H2 h1 h2) : Un fs ex H H2 h h2 where
  keep := fun c ob q n hc hx => b.keep c ob (a.keep c ob q n hc hx) (a.free c ob q n hx) hc hx
  slot := fun c ob q n hc hx => by
    obtain ⟨sl, e1⟩ := a.slot c ob q n hc hx
    obtain ⟨sl', e2⟩ := b.slot c _ e1 (a.free c ob q n hx) hc hx
    exact ⟨sl', e2⟩
  free := fun c ob q n hx => by
    obtain ⟨o', e1⟩ := a.there c ob q hx
    exact b.free c o' e1 (a.free c ob q n hx) hx
  there := fun c ob q hx => by
    obtain ⟨o', e1⟩ := a.there c ob q hx
    exact b.there c o' e1 hx
  tups := fun c xs q => b.tups c xs (a.tups c xs q)
  frzs := fun c ob xs q => b.frzs c ob xs (a.frzs c ob xs q)
  tbls := fun c ps q => by
    obtain ⟨m1, e1⟩ := a.tbls c ps q
    obtain ⟨m2, e2⟩ := b.tbls c _ e1
    exact ⟨m1 ++ m2, by rw [e2, Array.append_assoc]⟩
theorem Un.kept (k : ∀ b u, h.get? b = some u → h'.get? b = some u) : Un fs ex H H h h' :=
  ⟨fun b ob q _ _ _ => k b ob q, fun b ob q _ _ _ => ⟨ob.slots, k b ob q⟩, fun _ _ _ n _ => n, fun b ob q _ => ⟨ob, k b ob q⟩, fun _ _ q => q, fun _ _ _ q => q, fun _ ps q => ⟨#[], by rw [q]; simp⟩⟩
theorem Un.refl : Un fs ex H H h h := Un.kept fun _ _ q => q
theorem Un.laid (k : ∀ b u, h.get? b = some u → h'.get? b = some u) (hp : h.objs.size ≤ a) (hn : H a = none) : Un fs ex H (upd H a o) h h' where
  keep := fun b u q _ _ _ => k b u q
  slot := fun b u q _ _ _ => ⟨u.slots, k b u q⟩
  free := fun b u q n _ => by rw [upd_ne (Nat.ne_of_lt (Nat.lt_of_lt_of_le (Heap.lt_size q) hp))]; exact n
  there := fun b u q _ => ⟨u, k b u q⟩
  tups := fun b xs q => by rw [upd_ne (ne_of_none q hn)]; exact q
  frzs := fun b u xs q => by rw [upd_ne (ne_of_none q hn)]; exact q
  tbls := fun b ps q => ⟨#[], by rw [upd_ne (ne_of_none q hn), q]; simp⟩
theorem Un.write (mu : Mut (H x)) (he : e = x ∨ H e = some (.own x)) (k : ∀ b u, b ≠ e → h.get? b = some u → h'.get? b = some u) (heo : ∃ u, h'.get? e = some u) : Un fs ex H (upd H x o) h h' := by
  have hx : ∀ b, H b = none → b ≠ x := fun b n z => by subst z; rw [n] at mu; exact mu
  have hb : ∀ b, H b = none → b ≠ e := fun b n z => by
    subst z
    rcases he with r | r
    · exact hx b n r
    · rw [n] at r; cases r
  have hm : ∀ b u, H b = some u → ¬ Mut (some u) → b ≠ x := fun b u q nm z => by subst z; rw [q] at mu; exact nm mu
  refine ⟨fun b u q n _ _ => k b u (hb b n) q, fun b u q n _ _ => ⟨u.slots, k b u (hb b n) q⟩, fun b u q n _ => by rw [upd_ne (hx b n)]; exact n, fun b u q _ => ?_,
    fun b xs q => by rw [upd_ne (hm b _ q fun z => z)]; exact q, fun b u xs q => by rw [upd_ne (hm b _ q fun z => z)]; exact q, fun b ps q => ⟨#[], by rw [upd_ne (hm b _ q fun z => z), q]; simp⟩⟩
  by_cases hbe : b = e
  · subst hbe; exact heo
  · exact ⟨u, k b u hbe q⟩
theorem Un.mono (u : Un fs ex H H1 h h1) (hs : ∀ b ∈ fs, b ∈ fs') (hx : ∀ b ∈ ex, b ∈ ex') : Un fs' ex' H H1 h h1 :=
  ⟨fun b ob q n hb he => u.keep b ob q n (fun z => hb (hs b z)) fun z => he (hx b z), fun _ _ q n _ he => u.any q n fun z => he (hx _ z), fun b ob q n he => u.free b ob q n fun z => he (hx b z), fun b ob q he => u.there b ob q fun z => he (hx b z), u.tups, u.frzs, u.tbls⟩
end

/-! ### the heap without what is tracked -/
def trk (h : Heap) (H : Hp) : List Addr := (List.range h.objs.size).filter fun a => (H a).isSome
def hidT (h : Heap) (H : Hp) : Heap := PySem.W.hideAll h (trk h H)
theorem hidT_size (h : Heap) (H : Hp) : (hidT h H).objs.size = h.objs.size := PySem.W.hideAll_size _ _
theorem hidT_get {h : Heap} {H : Hp} {b : Addr} {o : Obj} (e : h.get? b = some o) (n : H b = none) : (hidT h H).get? b = some o :=
  PySem.W.hideAll_get _ e fun hm => by
    have q : (H b).isSome = true := (List.mem_filter.mp hm).2
    rw [n] at q; simp at q
theorem of_hidT {h : Heap} {H : Hp} {b : Addr} {o : Obj} (e : (hidT h H).get? b = some o) : h.get? b = some o ∧ H b = none := by
  have e' : h.get? b = some o := PySem.W.of_hideAll (trk h H) e
  refine ⟨e', ?_⟩
  cases q : H b with
  | none => rfl
  | some x =>
    have hm : b ∈ trk h H := List.mem_filter.mpr ⟨List.mem_range.mpr (Heap.lt_size e'), by simp [q]⟩
    have z : (hidT h H).get? b = none := PySem.W.hideAll_none (trk h H) hm
    rw [z] at e; cases e

/-! ### OpenK's ledger, filled with every new object but one -/
def allNews (g h : Heap) (L : Addr) : List (Addr × Obj) := (List.range h.objs.size).filterMap fun a => if a = L ∨ (g.get? a).isSome = true then none else (h.get? a).map fun o => (a, o)
def rest (g h : Heap) (L d : Addr) : List (Addr × Obj) := (allNews g h L).filter fun p => decide (p.1 ≠ d)
end L2

namespace L2
open PySem PySem.Spec PyProof.Rows

/-- the module's facts, over the base: the heap at the law's entry without what is tracked there -/
structure Mod (K : PySem.W.Frag) (mg : Str → Option Value) (base : Heap) : Prop where
  kin : K.In base
  glob : base.Ns mainGlobals mg
  blt : ∃ mb, base.Ns builtinsNs mb ∧ ∀ x : Str, x ≠ "__name__" → mb x = bootBuiltins x
  nolimit : base.NoLimit

/-- the context: a def's body (or a comprehension's block) running. base: fixed through the whole law; s₀, H₀: the entry; outer: the frames whose slots others may change (a def's callers); stack: all frames that run;
   ex: iterators that were made ahead of the entry and are walked here (a comprehension's); fn: the names whose cells were made at the entry (a def: all; a comprehension's block: its own); calm: not within an except suite; pn: pins that every state bears; xe: what is wanted of an exception that leaves the code -/
structure Cx where
  prog : Program
  w : World
  K : PySem.W.Frag
  mg : Str → Option Value
  base : Heap
  A : Around
  N : List Str
  s₀ : Shared
  H₀ : Hp
  env : Env
  outer : List Env
  stack : List Env
  ex : List Addr
  fn : Str → Bool
  calm : Bool
  pn : List (Addr × Obj)
  xe : Value → Shared → Prop
/-- the callers' frames -/
def frs (l : List Env) : List Addr := l.filterMap (·.frame)
abbrev Cx.fs (X : Cx) : List Addr := frs X.outer

def Vis (sc : Scope) (x : Str) : Prop := sc.names.lookup x = some .local ∨ sc.names.lookup x = some .cell ∨ sc.names.lookup x = some .free
def Loc (sc : Scope) (x : Str) : Prop := sc.names.lookup x = some .local ∨ sc.names.lookup x = some .cell
def Look (env : Env) (h : Heap) (m : Str → Option Value) (x : Str) (u : Value) : Prop :=
  (env.kindOf x = some .local ∧ m x = some u) ∨ ((env.kindOf x = some .cell ∨ env.kindOf x = some .free) ∧ ∃ c, env.cells.lookup x = some c ∧ h.IsCell c (some u))

structure Cx.Ok (X : Cx) : Prop where
  mod : Mod X.K X.mg X.base
  kind : X.env.scope.kind = .function
  glob : X.env.globals = mainGlobals
  blt : X.env.builtins = builtinsNs
  above : X.s₀.heap.objs.size ≤ X.env.locals
  inj : ∀ x y c, X.env.cells.lookup x = some c → X.env.cells.lookup y = some c → x = y
  has : ∀ x, (X.env.kindOf x = some .cell ∨ X.env.kindOf x = some .free) → ∃ c, X.env.cells.lookup x = some c
  cab : ∀ x c, X.fn x = true → X.env.cells.lookup x = some c → X.s₀.heap.objs.size ≤ c
  hd : X.calm = true → X.A.handled = none
  frames : X.A.frames = some X.stack
  stk : X.stack = X.outer ∨ (X.stack = X.env :: X.outer ∧ X.env.frame = some X.env.locals)
  exf : ∀ b ∈ X.ex, b ≠ X.env.locals ∧ ∀ x c, X.env.cells.lookup x = some c → c ≠ b
  bs : ∀ b o, X.base.get? b = some o → X.s₀.heap.get? b = some o ∧ X.H₀ b = none
  bsz : X.base.objs.size ≤ X.s₀.heap.objs.size
  noex : ∀ b o, X.base.get? b = some o → b ∉ X.ex
  exfs : ∀ b ∈ X.ex, b ∉ X.fs
  funs : X.s₀.heap.FunFrames X.base X.outer
  frf : ∀ b ∈ X.fs, X.H₀ b = none

structure Inv (X : Cx) (pins : List (Addr × Obj)) (σ : List (Option V)) (H : Hp) (s : Shared) : Prop where
  ok : X.Ok
  os : s.os = X.s₀.os
  bare : AllBare s.gens
  base : Un X.fs X.ex X.H₀ H X.s₀.heap s.heap
  loc : ∃ m, s.heap.Ns X.env.locals m ∧ ∀ (i : Nat) (x : Str) (v : V), X.N[i]? = some x → σ[i]? = some (some v) → Vis X.env.scope x → ∃ u, RelV v u ∧ Look X.env s.heap m x u
  cell : ∀ x c, X.env.cells.lookup x = some c → ∃ v, s.heap.IsCell c v
  free : H X.env.locals = none
  freeC : ∀ x c, X.env.cells.lookup x = some c → H c = none
  pin : ∀ p ∈ X.pn ++ pins, s.heap.get? p.1 = some p.2 ∧ H p.1 = none ∧ p.1 ≠ X.env.locals ∧ p.1 ∉ X.fs ∧ ∀ v, p.2.data ≠ .cell v
  hok : HOk X.prog X.w H s.heap
  len : σ.length = X.N.length

section
variable {X : Cx} {pins : List (Addr × Obj)} {σ : List (Option V)} {H H' : Hp} {s : Shared} {h' : Heap}

theorem Cx.Ok.nofr (ok : X.Ok) {b : Addr} {o : Obj} (e : X.base.get? b = some o) : b ∉ X.fs := fun hb => by
  have := (ok.funs.mem hb).1
  rw [e] at this; cases this
theorem Inv.bs (I : Inv X pins σ H s) : ∀ b o, X.base.get? b = some o → s.heap.get? b = some o ∧ H b = none := fun b o e =>
  ⟨I.base.keep b o (I.ok.bs b o e).1 (I.ok.bs b o e).2 (I.ok.nofr e) (I.ok.noex b o e), I.base.free b o (I.ok.bs b o e).1 (I.ok.bs b o e).2 (I.ok.noex b o e)⟩
theorem Inv.bk (I : Inv X pins σ H s) : ∀ b o, X.base.get? b = some o → s.heap.get? b = some o := fun b o e => (I.bs b o e).1
theorem Inv.mod (I : Inv X pins σ H s) : Mod X.K X.mg X.base := I.ok.mod
theorem Inv.kIn (I : Inv X pins σ H s) : X.K.In s.heap := I.ok.mod.kin.keeps I.bk
theorem Inv.nolimit (I : Inv X pins σ H s) : s.heap.NoLimit := I.ok.mod.nolimit.keeps I.bk
/-- the frame over the base: for OpenK's rules (K.In X.base is I.mod.kin) -/
theorem Inv.fr (I : Inv X pins σ H s) : ∃ m, Fr X.base X.env.locals s.heap m :=
  let ⟨m, hn, _⟩ := I.loc
  ⟨m, hn, I.bk, Nat.le_trans I.ok.bsz I.ok.above⟩
theorem Inv.lt (I : Inv X pins σ H s) : X.env.locals < s.heap.objs.size := let ⟨_, hn, _⟩ := I.loc; hn.lt
theorem Inv.sz (I : Inv X pins σ H s) : X.s₀.heap.objs.size ≤ s.heap.objs.size := Nat.le_trans I.ok.above (Nat.le_of_lt I.lt)
theorem Inv.nofs (I : Inv X pins σ H s) {a : Addr} (h : s.heap.objs.size ≤ a) : a ∉ X.fs := fun hb => by
  obtain ⟨_, o, ho, _⟩ := I.ok.funs.mem hb
  exact absurd (Nat.lt_of_lt_of_le (Heap.lt_size ho) (Nat.le_trans I.sz h)) (Nat.lt_irrefl _)
theorem Inv.cne (I : Inv X pins σ H s) : ∀ x c, X.env.cells.lookup x = some c → c ≠ X.env.locals := fun x c e z => by
  obtain ⟨v, o, ho, hd⟩ := I.cell x c e
  obtain ⟨m, ⟨o', es, ep, ho', hd', _⟩, _⟩ := I.loc
  rw [z, ho'] at ho; cases ho; rw [hd'] at hd; cases hd
theorem Inv.funs (I : Inv X pins σ H s) : s.heap.FunFrames X.base X.outer := by
  have all : ∀ (l : List Env), (∀ b ∈ frs l, b ∈ X.fs) → X.s₀.heap.FunFrames X.base l → s.heap.FunFrames X.base l := by
    intro l
    induction l with
    | nil => intro _ _; trivial
    | cons env r ih =>
      intro hs hl
      obtain ⟨hk, ⟨L, o, hf, hn, ho, hd⟩, hr⟩ := hl
      have hL : L ∈ X.fs := hs L (by unfold frs; rw [List.filterMap_cons, hf]; exact List.mem_cons_self)
      obtain ⟨sl, e⟩ := I.base.slot L o ho (I.ok.frf L hL) hL fun z => I.ok.exfs L z hL
      exact ⟨hk, ⟨L, _, hf, hn, e, hd⟩, ih (fun b hb => hs b (by unfold frs; rw [List.filterMap_cons, hf]; exact List.mem_cons_of_mem _ hb)) hr⟩
  exact all X.outer (fun _ hb => hb) I.ok.funs

/-- the frames that run, for a call -/
theorem Inv.stack (I : Inv X pins σ H s) : s.heap.FunFrames X.base X.stack := by
  rcases I.ok.stk with e | ⟨e, hf⟩
  · rw [e]; exact I.funs
  · rw [e]
    obtain ⟨m, hn, _⟩ := I.loc
    refine .cons (by rw [I.ok.kind]; decide) hf hn ?_ I.funs
    exact Heap.get?_none_of_le (Nat.le_trans I.ok.bsz I.ok.above)
theorem Inv.stkSub (I : Inv X pins σ H s) : ∀ b ∈ frs X.stack, b ∈ X.env.locals :: X.fs := fun b hb => by
  rcases I.ok.stk with e | ⟨e, hf⟩
  · rw [e] at hb; exact List.mem_cons_of_mem _ hb
  · rw [e] at hb
    unfold frs at hb
    rw [List.filterMap_cons, hf] at hb
    exact hb
theorem Inv.stkFree (I : Inv X pins σ H s) : ∀ b ∈ frs X.stack, H b = none := fun b hb => by
  rcases List.mem_cons.mp (I.stkSub b hb) with e | hb
  · rw [e]; exact I.free
  · obtain ⟨_, o, ho, _⟩ := I.ok.funs.mem hb
    exact I.base.free b o ho (I.ok.frf b hb) fun z => I.ok.exfs b z hb

/-- THE STEP: the untracked objects but the frame and the records at ch are kept (the callers' frames up to slots), the frame's map is kept, the new abstract heap is held -/
theorem Inv.step {g' : Array GenState} {t' : Nat} {d' : Drawn} {ch : List Addr} (I : Inv X pins σ H s)
    (hch : ∀ b ∈ ch, (b ∈ X.ex ∨ X.s₀.heap.objs.size ≤ b) ∧ b ≠ X.env.locals ∧ (∀ x c, X.env.cells.lookup x = some c → c ≠ b) ∧ ∀ p ∈ X.pn ++ pins, p.1 ≠ b)
    (keep : ∀ b o, b ≠ X.env.locals → b ∉ X.fs → b ∉ ch → s.heap.get? b = some o → H b = none → h'.get? b = some o)
    (slot : ∀ b o, b ≠ X.env.locals → b ∈ X.fs → b ∉ ch → s.heap.get? b = some o → H b = none → ∃ sl, h'.get? b = some { o with slots := sl }) (free : ∀ b o, b ∉ ch → s.heap.get? b = some o → H b = none → H' b = none)
    (there : ∀ b o, b ∉ ch → s.heap.get? b = some o → ∃ o', h'.get? b = some o')
    (tups : ∀ b xs, H b = some (.tup xs) → H' b = some (.tup xs)) (frzs : ∀ b o u, H b = some (.frz o u) → H' b = some (.frz o u)) (tbls : ∀ b ps, H b = some (.tbl ps) → ∃ more, H' b = some (.tbl (ps ++ more)))
    (ns : ∀ m, s.heap.Ns X.env.locals m → h'.Ns X.env.locals m) (hok : HOk X.prog X.w H' h') (hg : AllBare g') :
    Inv X pins σ H' { s with heap := h', gens := g', drawn := d', toks := t' } := by
  have neL : ∀ b o, X.s₀.heap.get? b = some o → b ≠ X.env.locals := fun b o e => Nat.ne_of_lt (Nat.lt_of_lt_of_le (Heap.lt_size e) I.ok.above)
  have neC : ∀ b o, X.s₀.heap.get? b = some o → b ∉ X.ex → b ∉ ch := fun b o e hx hb => by
    rcases (hch b hb).1 with z | z
    · exact hx z
    · exact absurd (Nat.lt_of_lt_of_le (Heap.lt_size e) z) (Nat.lt_irrefl _)
  have cellK : ∀ x c, X.env.cells.lookup x = some c → ∀ v, s.heap.IsCell c v → h'.IsCell c v := fun x c e v ⟨o, ho, hd⟩ => by
    have nch : c ∉ ch := fun z => (hch c z).2.2.1 x c e rfl
    by_cases hc : c ∈ X.fs
    · obtain ⟨sl, q⟩ := slot c o (I.cne x c e) hc nch ho (I.freeC x c e)
      exact ⟨_, q, hd⟩
    · exact ⟨o, keep c o (I.cne x c e) hc nch ho (I.freeC x c e), hd⟩
  refine ⟨I.ok, I.os, hg, ⟨fun b o e n hb hx => ?_, fun b o e n hb hx => ?_, fun b o e n hx => ?_, fun b o e hx => ?_, fun b xs e => tups b xs (I.base.tups b xs e), fun b o xs e => frzs b o xs (I.base.frzs b o xs e), fun b ps e => ?_⟩, ?_, fun x c e => ?_, ?_, fun x c e => ?_, fun p hp => ?_, hok, I.len⟩
  · exact keep b o (neL b o e) hb (neC b o e hx) (I.base.keep b o e n hb hx) (I.base.free b o e n hx)
  · obtain ⟨sl, e1⟩ := I.base.slot b o e n hb hx
    obtain ⟨sl', e2⟩ := slot b _ (neL b o e) hb (neC b o e hx) e1 (I.base.free b o e n hx)
    exact ⟨sl', e2⟩
  · obtain ⟨o', e1⟩ := I.base.there b o e hx
    exact free b o' (neC b o e hx) e1 (I.base.free b o e n hx)
  · obtain ⟨o', e1⟩ := I.base.there b o e hx
    exact there b o' (neC b o e hx) e1
  · obtain ⟨m1, e1⟩ := I.base.tbls b ps e
    obtain ⟨m2, e2⟩ := tbls b _ e1
    exact ⟨m1 ++ m2, by rw [e2, Array.append_assoc]⟩
  · obtain ⟨m, hn, hl⟩ := I.loc
    refine ⟨m, ns m hn, fun i x v e1 e2 e3 => ?_⟩
    obtain ⟨u, r, l⟩ := hl i x v e1 e2 e3
    refine ⟨u, r, ?_⟩
    rcases l with l | ⟨k, c, e, z⟩
    · exact .inl l
    · exact .inr ⟨k, c, e, cellK x c e _ z⟩
  · obtain ⟨v, z⟩ := I.cell x c e
    exact ⟨v, cellK x c e v z⟩
  · obtain ⟨m, ⟨o, _, _, ho, _⟩, _⟩ := I.loc
    exact free _ o (fun z => (hch _ z).2.1 rfl) ho I.free
  · obtain ⟨v, o, ho, hd⟩ := I.cell x c e
    exact free c o (fun z => (hch c z).2.2.1 x c e rfl) ho (I.freeC x c e)
  · obtain ⟨e, n, ne, nf, d⟩ := I.pin p hp
    have nch : p.1 ∉ ch := fun z => (hch p.1 z).2.2.2 p hp rfl
    exact ⟨keep p.1 p.2 ne nf nch e n, free p.1 p.2 nch e n, ne, nf, d⟩
/-- .. where the frame's own object is kept too -/
theorem Inv.un {t' : Nat} (I : Inv X pins σ H s) (u : Un X.fs [] H H' s.heap h') (hok : HOk X.prog X.w H' h') : Inv X pins σ H' { s with heap := h', toks := t' } := by
  obtain ⟨m, ⟨o, es, ep, ho, r⟩, _⟩ := id I.loc
  obtain ⟨sl, hL⟩ := u.any ho I.free (by simp)
  exact I.step (g' := s.gens) (d' := s.drawn) (ch := []) (fun _ z => nomatch z) (fun b o _ hb _ e n => u.keep b o e n hb (by simp)) (fun b o _ hb _ e n => u.slot b o e n hb (by simp)) (fun b o _ e n => u.free b o e n (by simp)) (fun b o _ e => u.there b o e (by simp)) u.tups u.frzs u.tbls (fun m' hm => by
    obtain ⟨o', es', ep', ho', r'⟩ := hm
    rw [ho] at ho'; cases ho'
    exact ⟨_, es', ep', hL, r'⟩) hok I.bare
/-- behind a call (or a comprehension's block): the slots of this frame may have changed too, the records at ch may have turned -/
theorem Inv.call {g' : Array GenState} {t' : Nat} {d' : Drawn} {ch : List Addr} (I : Inv X pins σ H s) (u : Un (frs X.stack) ch H H' s.heap h') (hok : HOk X.prog X.w H' h') (hg : AllBare g')
    (hch : ∀ b ∈ ch, (b ∈ X.ex ∨ X.s₀.heap.objs.size ≤ b) ∧ b ≠ X.env.locals ∧ (∀ x c, X.env.cells.lookup x = some c → c ≠ b) ∧ ∀ p ∈ X.pn ++ pins, p.1 ≠ b) :
    Inv X pins σ H' { s with heap := h', gens := g', drawn := d', toks := t' } := by
  obtain ⟨m, ⟨o, es, ep, ho, r⟩, _⟩ := id I.loc
  obtain ⟨sl, hL⟩ := u.any ho I.free fun z => (hch _ z).2.1 rfl
  exact I.step (ch := ch) hch (fun b o hL hb hc e n => u.keep b o e n (fun z => (List.mem_cons.mp (I.stkSub b z)).elim hL hb) hc) (fun b o _ _ hc e n => u.any e n hc) (fun b o hc e n => u.free b o e n hc) (fun b o hc e => u.there b o e hc) u.tups u.frzs u.tbls (fun m' hm => by
    obtain ⟨o', es', ep', ho', r'⟩ := hm
    rw [ho] at ho'; cases ho'
    exact ⟨_, es', ep', hL, r'⟩) hok hg
/-- an untracked record of ours (an iterator) has turned -/
theorem Inv.turned {t' : Nat} {it : Addr} (I : Inv X pins σ H s) (k : ∀ b o, b ≠ it → s.heap.get? b = some o → h'.get? b = some o) (hn : H it = none) (hL : it ≠ X.env.locals)
    (h1 : it ∈ X.ex ∨ X.s₀.heap.objs.size ≤ it) (h2 : ∀ x c, X.env.cells.lookup x = some c → c ≠ it) (h3 : ∀ p ∈ X.pn ++ pins, p.1 ≠ it) : Inv X pins σ H { s with heap := h', toks := t' } := by
  have nit : ∀ b u, H b = some u → b ≠ it := fun b u e z => by rw [z, hn] at e; cases e
  refine I.step (g' := s.gens) (d' := s.drawn) (ch := [it]) (fun b hb => ?_) (fun b o _ _ hc e _ => k b o (fun z => hc (by simp [z])) e) (fun b o _ _ hc e _ => ⟨o.slots, k b o (fun z => hc (by simp [z])) e⟩) (fun _ _ _ _ n => n)
    (fun b o hc e => ⟨o, k b o (fun z => hc (by simp [z])) e⟩) (fun _ _ e => e) (fun _ _ _ e => e) (fun b ps e => ⟨#[], by rw [e]; simp⟩) (fun m hm => ?_) (fun b u e => ?_) I.bare
  · have e : b = it := by simpa using hb
    subst e
    exact ⟨h1, hL, h2, h3⟩
  · obtain ⟨o, es, ep, ho, r⟩ := hm
    exact ⟨o, es, ep, k _ o (Ne.symm hL) ho, r⟩
  · refine (I.hok b u e).stay (fun c v hc q => k c v ?_ q) (fun _ q => q) fun _ _ q => q
    rcases hc with z | z
    · rw [z]; exact nit b u e
    · exact nit c _ z
theorem Inv.tok (I : Inv X pins σ H s) (t : Nat) : Inv X pins σ H { s with toks := t } := I.un (h' := s.heap) (t' := t) Un.refl I.hok
/-- all objects kept -/
theorem Inv.kept {t' : Nat} (I : Inv X pins σ H s) (k : ∀ b u, s.heap.get? b = some u → h'.get? b = some u) : Inv X pins σ H { s with heap := h', toks := t' } := I.un (Un.kept k) (I.hok.kept k)
/-- a new object laid and tracked -/
theorem Inv.laid {a : Addr} {o : HO} {t' : Nat} (I : Inv X pins σ H s) (k : ∀ b u, s.heap.get? b = some u → h'.get? b = some u) (hp : s.heap.objs.size ≤ a) (new : ObjOk X.prog X.w (upd H a o) h' a o) :
    Inv X pins σ (upd H a o) { s with heap := h', toks := t' } := I.un (Un.laid k hp (I.hok.fresh hp)) (I.hok.laid k hp new)
/-- an object written -/
theorem Inv.write {x e : Addr} {o : HO} {t' : Nat} (I : Inv X pins σ H s) (mu : Mut (H x)) (he : e = x ∨ H e = some (.own x)) (k : ∀ b u, b ≠ e → s.heap.get? b = some u → h'.get? b = some u) (heo : ∃ u, h'.get? e = some u)
    (new : ObjOk X.prog X.w (upd H x o) h' x o) : Inv X pins σ (upd H x o) { s with heap := h', toks := t' } := I.un (Un.write mu he k heo) (I.hok.write mu he k heo new)
theorem Inv.pins_of {pins' : List (Addr × Obj)} (I : Inv X pins σ H s) (h : ∀ p ∈ pins', s.heap.get? p.1 = some p.2 ∧ H p.1 = none ∧ p.1 ≠ X.env.locals ∧ p.1 ∉ X.fs ∧ ∀ v, p.2.data ≠ .cell v) : Inv X pins' σ H s :=
  ⟨I.ok, I.os, I.bare, I.base, I.loc, I.cell, I.free, I.freeC, fun p hp => (List.mem_append.mp hp).elim (fun z => I.pin p (List.mem_append_left _ z)) (h p), I.hok, I.len⟩

theorem nodup_ix {N : List Str} (hN : N.Nodup) {i j : Nat} {x : Str} (a : N[i]? = some x) (b : N[j]? = some x) : i = j := by
  obtain ⟨h1, e1⟩ := List.getElem?_eq_some_iff.mp a
  obtain ⟨h2, e2⟩ := List.getElem?_eq_some_iff.mp b
  exact (List.getElem_inj hN).mp (e1.trans e2.symm)

/-- a name is stored; what changed -/
theorem store_ok2 {M : Model} {A : Around} {E : Value → Shared → Prop} {i : Nat} {x : Str} {v : V} {u : Value} {Q : Unit → Shared → Prop} (I : Inv X pins σ H s) (hN : X.N.Nodup) (hi : X.N[i]? = some x) (hx : Loc X.env.scope x) (r : RelV v u)
    (h : ∀ s', Inv X pins (σ.set i (some v)) H s' → (∃ a, Heap.SameBut a s.heap s'.heap ∧ (a = X.env.locals ∨ X.env.cells.lookup x = some a)) → Q () s') (hf : X.fn x = true ∨ X.env.scope.names.lookup x = some .local := by first | exact .inl rfl | exact .inr rfl | assumption) : wpAny M A (storeName X.env x u) Q E s := by
  obtain ⟨m, hn, hl⟩ := id I.loc
  have hcls : (X.env.scope.kind == .class || (X.env.scope.kind == .module && X.env.locals != X.env.globals)) = false := by rw [I.ok.kind]; rfl
  have hiσ : i < σ.length := by rw [I.len]; exact (List.getElem?_eq_some_iff.mp hi).1
  have cne := I.cne
  have tracked : ∀ {a : Addr} {h' : Heap}, (∃ o, s.heap.get? a = some o ∧ H a = none) → Heap.SameBut a s.heap h' → HOk X.prog X.w H h' := fun {a h'} ha hs b ob e => by
    obtain ⟨_, _, hfree⟩ := ha
    refine (I.hok b ob e).stay (fun c w' hc q => (hs.2 c ?_).trans q) (fun _ q => q) fun _ _ q => q
    rintro rfl
    rcases hc with rfl | hc
    · rw [hfree] at e; cases e
    · rw [hfree] at hc; cases hc
  rcases hx with hk | hk
  · refine wpAny_storeName_local hk hn (fun h' hn' hs => ?_) hcls
    obtain ⟨oL, _, _, hoL, _⟩ := id hn
    refine h _ ⟨I.ok, I.os, I.bare, ⟨fun b o e n hb hx => ?_, fun b o e n hb hx => ?_, I.base.free, fun b o e hx => ?_, I.base.tups, I.base.frzs, I.base.tbls⟩, ⟨_, hn', fun j y v' e1 e2 e3 => ?_⟩, fun y c e => ?_, I.free, I.freeC, fun p hp => ?_, tracked ⟨oL, hoL, I.free⟩ hs, by simpa using I.len⟩ ⟨_, hs, .inl rfl⟩
    · exact (hs.2 b (Nat.ne_of_lt (Nat.lt_of_lt_of_le (Heap.lt_size e) I.ok.above))).trans (I.base.keep b o e n hb hx)
    · obtain ⟨sl, e1⟩ := I.base.slot b o e n hb hx
      exact ⟨sl, (hs.2 b (Nat.ne_of_lt (Nat.lt_of_lt_of_le (Heap.lt_size e) I.ok.above))).trans e1⟩
    · obtain ⟨o', e1⟩ := I.base.there b o e hx
      exact ⟨o', (hs.2 b (Nat.ne_of_lt (Nat.lt_of_lt_of_le (Heap.lt_size e) I.ok.above))).trans e1⟩
    · by_cases hj : j = i
      · subst hj
        rw [hi] at e1; cases e1
        rw [List.getElem?_set_self hiσ] at e2
        cases e2
        exact ⟨u, r, .inl ⟨hk, by simp⟩⟩
      · rw [List.getElem?_set_ne (Ne.symm hj)] at e2
        obtain ⟨u', r', q⟩ := hl j y v' e1 e2 e3
        refine ⟨u', r', ?_⟩
        rcases q with ⟨k, e⟩ | ⟨k, c, e, z⟩
        · refine .inl ⟨k, ?_⟩
          have : y ≠ x := fun e => hj (nodup_ix hN e1 (e ▸ hi))
          simp [this, e]
        · exact .inr ⟨k, c, e, z.sameBut hs (cne y c e)⟩
    · obtain ⟨w', z⟩ := I.cell y c e
      exact ⟨w', z.sameBut hs (cne y c e)⟩
    · obtain ⟨e, n, ne, nf, d⟩ := I.pin p hp
      exact ⟨(hs.2 p.1 ne).trans e, n, ne, nf, d⟩
  · have hfn : X.fn x = true := by
      rcases hf with z | z
      · exact z
      · rw [z] at hk; cases hk
    obtain ⟨c, hc⟩ := I.ok.has x (.inl hk)
    obtain ⟨w', z⟩ := I.cell x c hc
    refine wpAny_storeName_cell I.ok.kind hk hc z (fun h' hc' hs => ?_)
    obtain ⟨oc, hoc, hocd⟩ := id z
    refine h { s with heap := h' } ⟨I.ok, I.os, I.bare, ⟨fun b o e n hb hx => ?_, fun b o e n hb hx => ?_, I.base.free, fun b o e hx => ?_, I.base.tups, I.base.frzs, I.base.tbls⟩, ⟨m, hn.sameBut hs (Ne.symm (cne x c hc)), fun j y v' e1 e2 e3 => ?_⟩, fun y c' e => ?_, I.free, I.freeC, fun p hp => ?_, tracked ⟨oc, hoc, I.freeC x c hc⟩ hs, by simpa using I.len⟩ ⟨c, hs, .inr hc⟩
    · exact (hs.2 b (Nat.ne_of_lt (Nat.lt_of_lt_of_le (Heap.lt_size e) (I.ok.cab x c hfn hc)))).trans (I.base.keep b o e n hb hx)
    · obtain ⟨sl, e1⟩ := I.base.slot b o e n hb hx
      exact ⟨sl, (hs.2 b (Nat.ne_of_lt (Nat.lt_of_lt_of_le (Heap.lt_size e) (I.ok.cab x c hfn hc)))).trans e1⟩
    · obtain ⟨o', e1⟩ := I.base.there b o e hx
      exact ⟨o', (hs.2 b (Nat.ne_of_lt (Nat.lt_of_lt_of_le (Heap.lt_size e) (I.ok.cab x c hfn hc)))).trans e1⟩
    · by_cases hj : j = i
      · subst hj
        rw [hi] at e1; cases e1
        rw [List.getElem?_set_self hiσ] at e2
        cases e2
        exact ⟨u, r, .inr ⟨.inl hk, c, hc, hc'⟩⟩
      · rw [List.getElem?_set_ne (Ne.symm hj)] at e2
        obtain ⟨u', r', q⟩ := hl j y v' e1 e2 e3
        refine ⟨u', r', ?_⟩
        rcases q with q | ⟨k, c', e, z'⟩
        · exact .inl q
        · refine .inr ⟨k, c', e, z'.sameBut hs ?_⟩
          rintro rfl
          exact hj (nodup_ix hN e1 (I.ok.inj _ _ _ e hc ▸ hi))
    · by_cases hcc : c' = c
      · subst hcc; exact ⟨_, hc'⟩
      · obtain ⟨w2, z2⟩ := I.cell y c' e
        exact ⟨w2, z2.sameBut hs hcc⟩
    · obtain ⟨e, n, ne, nf, d⟩ := I.pin p hp
      refine ⟨(hs.2 p.1 ?_).trans e, n, ne, nf, d⟩
      intro q
      rw [q, hoc] at e
      have q' : oc = p.2 := Option.some.inj e
      exact d w' (by rw [← q']; exact hocd)
theorem store_ok {M : Model} {A : Around} {E : Value → Shared → Prop} {i : Nat} {x : Str} {v : V} {u : Value} {Q : Unit → Shared → Prop} (I : Inv X pins σ H s) (hN : X.N.Nodup) (hi : X.N[i]? = some x) (hx : Loc X.env.scope x) (r : RelV v u)
    (h : ∀ s', Inv X pins (σ.set i (some v)) H s' → Q () s') (hf : X.fn x = true ∨ X.env.scope.names.lookup x = some .local := by first | exact .inl rfl | exact .inr rfl | assumption) : wpAny M A (storeName X.env x u) Q E s :=
  store_ok2 I hN hi hx r (fun s' I' _ => h s' I') hf
/-- behind a call or a block, the state as it is -/
theorem Inv.call' {s' : Shared} {ch : List Addr} (I : Inv X pins σ H s) (ho : s'.os = s.os) (u : Un (frs X.stack) ch H H' s.heap s'.heap) (hok : HOk X.prog X.w H' s'.heap) (hg : AllBare s'.gens)
    (hch : ∀ b ∈ ch, (b ∈ X.ex ∨ X.s₀.heap.objs.size ≤ b) ∧ b ≠ X.env.locals ∧ (∀ x c, X.env.cells.lookup x = some c → c ≠ b) ∧ ∀ p ∈ X.pn ++ pins, p.1 ≠ b) : Inv X pins σ H' s' := by
  obtain ⟨h', g', d', t', o'⟩ := s'
  have e : o' = s.os := ho
  subst e
  exact I.call (g' := g') (t' := t') (d' := d') u hok hg hch
end

/-! ### the judgements -/
/-- an exception: its class, its own dict's address (where it has one), the abstract heap behind it -/
abbrev XK := Value → Option Addr → Hp → Prop
abbrev St := List (Option V)
abbrev VK := V → Hp → Prop
/-- an expression's reading; a test's; an argument list's -/
abbrev TE := St → Hp → VK → Prop
abbrev TT := St → Hp → (Bool → Hp → Prop) → Prop
abbrev TA := St → Hp → (List V → Hp → Prop) → Prop
/-- what is wanted behind a statement -/
structure Ends where
  nx : St → Hp → Prop
  rt : VK
  bk : St → Hp → Prop := fun _ _ => False
  ct : St → Hp → Prop := fun _ _ => False
abbrev TS := Ends → St → Hp → Prop

def EP (X : Cx) (pins : List (Addr × Obj)) (σ : St) (Q : VK) (u : Value) (s' : Shared) : Prop := ∃ v H', Inv X pins σ H' s' ∧ RelV v u ∧ Q v H'
def TP (X : Cx) (pins : List (Addr × Obj)) (σ : St) (Q : Bool → Hp → Prop) (b : Bool) (s' : Shared) : Prop := ∃ H', Inv X pins σ H' s' ∧ Q b H'
def AP (X : Cx) (pins : List (Addr × Obj)) (σ : St) (Q : List V → Hp → Prop) (us : List Value) (s' : Shared) : Prop := ∃ vs H', Inv X pins σ H' s' ∧ Vals vs us ∧ Q vs H'
def SP (X : Cx) (pins : List (Addr × Obj)) (D : Ends) (f : Flow) (s' : Shared) : Prop :=
  match f with
  | .next => ∃ σ' H', Inv X pins σ' H' s' ∧ D.nx σ' H'
  | .brk => ∃ σ' H', Inv X pins σ' H' s' ∧ D.bk σ' H'
  | .cont => ∃ σ' H', Inv X pins σ' H' s' ∧ D.ct σ' H'
  | .ret u => ∃ v σ' H', Inv X pins σ' H' s' ∧ RelV v u ∧ D.rt v H'

def PE (X : Cx) (e : Expr) (t : TE) : Prop :=
  ∀ (pins : List (Addr × Obj)) (s : Shared) (σ : St) (H : Hp) (Q : VK), Inv X pins σ H s → t σ H Q → wpAny (model X.prog X.w) X.A (eval e X.env) (EP X pins σ Q) X.xe s
def PT (X : Cx) (e : Expr) (t : TT) : Prop :=
  ∀ (pins : List (Addr × Obj)) (s : Shared) (σ : St) (H : Hp) (Q : Bool → Hp → Prop), Inv X pins σ H s → t σ H Q → wpAny (model X.prog X.w) X.A (isTrue e X.env (eval e X.env)) (TP X pins σ Q) X.xe s
/-- a test whatever its 'whole' is (and, or) -/
def PW (X : Cx) (e : Expr) (t : TT) : Prop :=
  ∀ (whole : Sem Value) (pins : List (Addr × Obj)) (s : Shared) (σ : St) (H : Hp) (Q : Bool → Hp → Prop), Inv X pins σ H s → t σ H Q → wpAny (model X.prog X.w) X.A (isTrue e X.env whole) (TP X pins σ Q) X.xe s
theorem PW.pt {X : Cx} {e : Expr} {t : TT} (h : PW X e t) : PT X e t := h _
/-- an argument list (no star), from the left -/
def PA (X : Cx) (es : List Expr) (t : TA) : Prop :=
  ∀ (pos : Pos) (pins : List (Addr × Obj)) (s : Shared) (σ : St) (H : Hp) (Q : List V → Hp → Prop), Inv X pins σ H s → t σ H Q → wpAny (model X.prog X.w) X.A (spliced (backTo pos (starEach es X.env))) (AP X pins σ Q) X.xe s
def PS (X : Cx) (st : Stmt) (t : TS) : Prop :=
  ∀ (pins : List (Addr × Obj)) (s : Shared) (σ : St) (H : Hp) (D : Ends), Inv X pins σ H s → t D σ H → wpAny (model X.prog X.w) X.A (exec st X.env) (SP X pins D) X.xe s
def PSs (X : Cx) (st : List Stmt) (t : TS) : Prop :=
  ∀ (pins : List (Addr × Obj)) (s : Shared) (σ : St) (H : Hp) (D : Ends), Inv X pins σ H s → t D σ H → wpAny (model X.prog X.w) X.A (execs st X.env) (SP X pins D) X.xe s
/-- weaken the end -/
theorem thn {α : Type} {t : Sem α} {Q Q' : α → Shared → Prop} {M : Model} {A : Around} {E : Value → Shared → Prop} {s : Shared} (h : wpAny M A t Q E s) (hQ : ∀ a s, Q a s → Q' a s) : wpAny M A t Q' E s := wpAny_mono h hQ fun _ _ x => x
end L2

namespace L2
open PySem PySem.Spec PyProof.Rows
section
variable {X : Cx}

/-! ### names and constants -/
def tVar (i : Nat) : TE := fun σ H Q => ∃ v, σ[i]? = some (some v) ∧ Q v H
def tC (v : V) : TE := fun _ H Q => Q v H
theorem pe_var {i : Nat} {x : Str} {pos : Pos} (hN : X.N[i]? = some x) (hv : Vis X.env.scope x) (hd : (x == ("__debug__" : Str)) = false := by decide) (hcd : (x == ("__classdict__" : Str)) = false := by decide) : PE X (.Name x pos) (tVar i) := by
  intro pins s σ H Q I h
  obtain ⟨v, e, h⟩ := h
  obtain ⟨m, hn, hl⟩ := I.loc
  obtain ⟨u, r, l⟩ := hl i x v hN e hv
  have fin : EP X pins σ Q u s := ⟨v, H, I, r, h⟩
  rcases l with ⟨hk, hm⟩ | ⟨hk, c, hc, hcell⟩
  · exact wpAny_Name (wpAny_loadName_local I.ok.kind hk hn hm fin) hd
  · rcases hk with hk | hk
    · exact wpAny_Name (wpAny_loadName_cell I.ok.kind hk hc hcell fin) hd
    · exact wpAny_Name (wpAny_loadName_free I.ok.kind hk hc hcell fin hcd) hd
theorem pe_int {i j pos} : PE X (.Constant (.int i) j pos) (tC (.int i)) := fun _ _ _ H _ I h => wpAny_Constant_int ⟨.int i, H, I.tok _, ⟨_, rfl⟩, h⟩
theorem pe_bl {b j pos} : PE X (.Constant (.bool b) j pos) (tC (.bl b)) := fun _ _ _ H _ I h => Constant_bool ⟨.bl b, H, I, rfl, h⟩
theorem pe_non {j pos} : PE X (.Constant .none j pos) (tC .non) := fun _ _ _ H _ I h => Constant_none ⟨.non, H, I, rfl, h⟩
theorem pe_str {x j pos} : PE X (.Constant (.str x) j pos) (tC (.str x)) := fun _ _ _ H _ I h => Calls.Constant_str ⟨.str x, H, I.tok _, ⟨_, rfl⟩, h⟩

/-- a global name of the def -/
def Gl (X : Cx) (x : Str) : Prop := X.env.kindOf x = some .globalImplicit
theorem ld_glob {E : Value → Shared → Prop} {pins : List (Addr × Obj)} {s : Shared} {σ : St} {H : Hp} {x : Str} {u : Value} {pos : Pos} {Q : Value → Shared → Prop} (I : Inv X pins σ H s) (hg : Gl X x) (hm : X.mg x = some u) (h : Q u s)
    (hd : (x == ("__debug__" : Str)) = false := by decide) : wpAny (model X.prog X.w) X.A (eval (.Name x pos) X.env) Q E s :=
  Calls.Name_function_global I.ok.kind hg (Calls.loadGlobal_global (by rw [I.ok.glob]; exact I.mod.glob.keeps I.bk) hm h) hd
theorem ld_blt {E : Value → Shared → Prop} {pins : List (Addr × Obj)} {s : Shared} {σ : St} {H : Hp} {x : Str} {u : Value} {pos : Pos} {Q : Value → Shared → Prop} (I : Inv X pins σ H s) (hg : Gl X x) (hm : X.mg x = none) (hv : bootBuiltins x = some u) (h : Q u s)
    (hn : x ≠ "__name__" := by decide) (hd : (x == ("__debug__" : Str)) = false := by decide) : wpAny (model X.prog X.w) X.A (eval (.Name x pos) X.env) Q E s := by
  obtain ⟨mb, h1, h2⟩ := I.mod.blt
  exact Calls.Name_function_global I.ok.kind hg (Calls.loadGlobal_builtin (by rw [I.ok.glob]; exact I.mod.glob.keeps I.bk) hm (by rw [I.ok.blt]; exact h1.keeps I.bk) ((h2 x hn).trans hv) h) hd
/-- a module's constant, a class, a function, as a value -/
theorem pe_glob {x : Str} {v : V} {u : Value} {pos : Pos} (hg : Gl X x) (hm : X.mg x = some u) (r : RelV v u) (hd : (x == ("__debug__" : Str)) = false := by decide) : PE X (.Name x pos) (tC v) :=
  fun _ _ _ H _ I h => ld_glob I hg hm ⟨v, H, I, r, h⟩ hd
theorem pe_bltn {x : Str} {v : V} {u : Value} {pos : Pos} (hg : Gl X x) (hm : X.mg x = none) (hv : bootBuiltins x = some u) (r : RelV v u) (hn : x ≠ "__name__" := by decide) (hd : (x == ("__debug__" : Str)) = false := by decide) : PE X (.Name x pos) (tC v) :=
  fun _ _ _ H _ I h => ld_blt I hg hm hv ⟨v, H, I, r, h⟩ hn hd

/-! ### arithmetic -/
variable {a b : Expr} {ta tb : TE} {pos : Pos}
/-! ### comparisons -/
def PC (X : Cx) (op : CmpOp) (a b : Expr) (t : TE) : Prop :=
  ∀ (pins : List (Addr × Obj)) (s : Shared) (σ : St) (H : Hp) (Q : VK), Inv X pins σ H s → t σ H Q →
    wpAny (model X.prog X.w) X.A (eval a X.env) (fun v s₁ => wpAny (model X.prog X.w) X.A (eval b X.env) (fun u s₂ => wpAny (model X.prog X.w) X.A (compareOp op v u) (EP X pins σ Q) X.xe s₂) X.xe s₁) X.xe s
theorem nobehind (b : Expr) {op : CmpOp} (h : op ≠ .In) (h2 : op ≠ .NotIn) : behindInMarks op b = false := by
  have e1 : (op == CmpOp.In) = false := by cases op <;> first | rfl | exact absurd rfl h
  have e2 : (op == CmpOp.NotIn) = false := by cases op <;> first | rfl | exact absurd rfl h2
  cases b <;> simp [behindInMarks, e1, e2]
/-- a comparison as a value, as a test -/
def tB (t : TE) : TT := fun σ H Q => t σ H fun x H1 => ∃ c, x = .bl c ∧ Q c H1
theorem pt_cmp {op : CmpOp} {t : TE} (h : PC X op a b t) (h1 : behindInMarks op b = false := by first | exact nobehind _ (by decide) (by decide) | rfl) : PT X (.Compare a [op] [b] pos) (tB t) := by
  intro pins s σ H Q I hw
  refine wpAny_isTrue_Compare1 (thn (h pins s σ H _ I hw) fun v s1 h1 => thn h1 fun u s2 h2 => thn h2 fun c s3 ⟨x, H1, I1, r1, q1⟩ => ?_) h1
  obtain ⟨d, rfl, q⟩ := q1
  cases r1
  exact wpAny_truthy_bool ⟨H1, I1, q⟩
/-- an expression whose value is a bool, as a test -/
theorem pt_val {e : Expr} {t : TE} (h : PE X e t) (he : ∀ whole, isTrue e X.env whole = (do let v ← whole; standAt e.pos; holding [v] (truthy v)) := by intro _; rfl) : PT X e (tB t) := by
  intro pins s σ H Q I hw
  refine isTrue_plain (thn (h pins s σ H _ I hw) fun v s1 ⟨x, H1, I1, r1, q1⟩ => ?_) (he _)
  obtain ⟨d, rfl, q⟩ := q1
  cases r1
  exact wpAny_truthy_bool ⟨H1, I1, q⟩

/-! ### and, or, not -/
variable {tA tB' : TT} {rest : List Expr}
def tAnd (t u : TT) : TT := fun σ H Q => t σ H fun c H1 => if c = true then u σ H1 Q else Q false H1
def tOr (t u : TT) : TT := fun σ H Q => t σ H fun c H1 => if c = true then Q true H1 else u σ H1 Q
def tNot (t : TT) : TT := fun σ H Q => t σ H fun c H1 => Q (!c) H1
theorem pw_and1 (ha : PT X a tA) : PW X (.BoolOp .And [a] pos) tA := by
  intro wh pins s σ H Q I h
  refine isTrue_and (thn (ha pins s σ H Q I h) fun c s1 e => ?_)
  cases c with
  | true => exact isTrue_and_nil e
  | false => exact e
theorem pw_or1 (ha : PT X a tA) : PW X (.BoolOp .Or [a] pos) tA := by
  intro wh pins s σ H Q I h
  refine isTrue_or (thn (ha pins s σ H Q I h) fun c s1 e => ?_)
  cases c with
  | false => exact isTrue_or_nil e
  | true => exact e
theorem pw_and (ha : PT X a tA) (hb : PW X (.BoolOp .And (b :: rest) pos) tB') : PW X (.BoolOp .And (a :: b :: rest) pos) (tAnd tA tB') := by
  intro wh pins s σ H Q I h
  refine isTrue_and (thn (ha pins s σ H _ I h) fun c s1 ⟨H1, I1, q1⟩ => ?_)
  cases c with
  | true => exact hb wh pins s1 σ H1 Q I1 q1
  | false => exact ⟨H1, I1, q1⟩
theorem pw_or (ha : PT X a tA) (hb : PW X (.BoolOp .Or (b :: rest) pos) tB') : PW X (.BoolOp .Or (a :: b :: rest) pos) (tOr tA tB') := by
  intro wh pins s σ H Q I h
  refine isTrue_or (thn (ha pins s σ H _ I h) fun c s1 ⟨H1, I1, q1⟩ => ?_)
  cases c with
  | true => exact ⟨H1, I1, q1⟩
  | false => exact hb wh pins s1 σ H1 Q I1 q1
theorem pt_not (ha : PT X a tA) : PT X (.UnaryOp .Not a pos) (tNot tA) := by
  intro pins s σ H Q I h
  exact isTrue_not (ha pins s σ H (fun c H1 => Q (!c) H1) I h)
/-- .. as values (bools) -/
def tAndV (ta tb : TE) : TE := fun σ H Q => ta σ H fun x H1 => ∃ c, x = .bl c ∧ if c = true then tb σ H1 Q else Q (.bl false) H1
def tNotV (ta : TE) : TE := fun σ H Q => ta σ H fun x H1 => ∃ c, x = .bl c ∧ Q (.bl (!c)) H1
theorem pe_one {op} {t : TE} (h : PE X a t) : PE X (.BoolOp op [a] pos) t := fun pins s σ H Q I hw => BoolOp_one (h pins s σ H Q I hw)
theorem pe_and (ha : PE X a ta) (hb : PE X (.BoolOp .And (b :: rest) pos) tb) : PE X (.BoolOp .And (a :: b :: rest) pos) (tAndV ta tb) := by
  intro pins s σ H Q I h
  refine BoolOp_and (thn (ha pins s σ H _ I h) fun v s1 ⟨x, H1, I1, r1, q1⟩ => ?_)
  obtain ⟨c, rfl, q1⟩ := q1
  cases r1
  refine wpAny_truthy_bool ?_
  cases c with
  | true => exact hb pins s1 σ H1 Q I1 q1
  | false => exact ⟨.bl false, H1, I1, rfl, q1⟩
theorem pe_not (ha : PE X a ta) : PE X (.UnaryOp .Not a pos) (tNotV ta) := by
  intro pins s σ H Q I h
  refine UnaryOp_ (thn (ha pins s σ H _ I h) fun v s1 ⟨x, H1, I1, r1, q1⟩ => ?_)
  obtain ⟨c, rfl, q1⟩ := q1
  cases r1
  exact not_of (wpAny_truthy_bool ⟨.bl (!c), H1, I1, rfl, q1⟩)
end
end L2

namespace L2
open PySem PySem.Spec PyProof.Rows

/-! ### a list, a tuple that is read: tracked, frozen, or an object of the module -/
def SqL (K : PySem.W.Frag) (H : Hp) (a : Addr) (xs : List V) : Prop :=
  Rd H a (.lst xs) ∨
    ∃ (o : Obj) (its : Array Value) (n : Nat), K.lookup a = some o ∧ o.cls = .type "list" ∧ o.dict = none ∧ o.data = .seq its n ∧ its.size ≤ sizeLine ∧ Vals xs its.toList
def SqT (K : PySem.W.Frag) (H : Hp) (a : Addr) (xs : List V) : Prop :=
  Rd H a (.tup xs) ∨
    ∃ (o : Obj) (its : Array Value) (n : Nat), K.lookup a = some o ∧ o.cls = .type "tuple" ∧ o.data = .seq its n ∧ its.size ≤ sizeLine ∧ Vals xs its.toList
def absV : Value → Option V
  | .none => some .non
  | .bool b => some (.bl b)
  | .int i _ => some (.int i)
  | .str x _ => some (.str x)
  | .bytes b _ => some (.byt b)
  | .float b _ => some (.flt b)
  | .ref a => some (.ref a)
  | .type n => some (.ty n)
  | _ => none
theorem RelV.abs {x : V} {u : Value} (r : RelV x u) : absV u = some x := by
  cases x with
  | non => cases r; rfl
  | bl _ => cases r; rfl
  | int _ => obtain ⟨t, rfl⟩ := r; rfl
  | str _ => obtain ⟨t, rfl⟩ := r; rfl
  | byt _ => obtain ⟨t, rfl⟩ := r; rfl
  | flt _ => obtain ⟨t, rfl⟩ := r; rfl
  | ref _ => cases r; rfl
  | ty _ => cases r; rfl
theorem RelV.inj {x y : V} {u : Value} (r : RelV x u) (q : RelV y u) : x = y := Option.some.inj (r.abs.symm.trans q.abs)
theorem Vals.inj : ∀ {xs ys : List V} {us : List Value}, Vals xs us → Vals ys us → xs = ys
  | _, _, _, .nil, .nil => rfl
  | _, _, _, .cons r t, .cons r' t' => by rw [r.inj r', Vals.inj t t']
section
variable {X : Cx} {pins : List (Addr × Obj)} {σ : St} {H : Hp} {s : Shared} {a : Addr} {xs ys : List V}
theorem SqL.of {K : PySem.W.Frag} (h : H a = some (.lst xs)) : SqL K H a xs := .inl (.inl h)
theorem SqT.of {K : PySem.W.Frag} (h : H a = some (.tup xs)) : SqT K H a xs := .inl (.inl h)
theorem Inv.list (I : Inv X pins σ H s) (h : SqL X.K H a xs) : ∃ its : List Value, Vals xs its ∧ PlainL s.heap a its.toArray ∧ xs.length ≤ sizeLine := by
  rcases h with h | ⟨o, its, n, hk, hc, hd, hs, hz, r⟩
  · obtain ⟨z, its, n, r, e⟩ := h.ok I.hok
    exact ⟨its, r, ⟨_, n, e, rfl, rfl, rfl⟩, z⟩
  · refine ⟨its.toList, r, ⟨o, n, I.kIn a o hk, hc, hd, by simpa using hs⟩, ?_⟩
    have e := r.length
    simp only [Array.length_toList] at e
    omega
theorem Inv.tuple (I : Inv X pins σ H s) (h : SqT X.K H a xs) : ∃ its : List Value, Vals xs its ∧ IsTup s.heap a its.toArray ∧ xs.length ≤ sizeLine := by
  rcases h with h | ⟨o, its, n, hk, hc, hs, hz, r⟩
  · obtain ⟨z, its, r, p⟩ := h.ok I.hok
    exact ⟨its, r, p, z⟩
  · refine ⟨its.toList, r, ⟨o, I.kIn a o hk, hc, n, by simpa using hs⟩, ?_⟩
    have e := r.length
    simp only [Array.length_toList] at e
    omega
theorem Inv.list_inj (I : Inv X pins σ H s) (h : SqL X.K H a xs) (h' : SqL X.K H a ys) : xs = ys := by
  obtain ⟨its, r, ⟨o, n, e, _, _, d⟩, _⟩ := I.list h
  obtain ⟨its', r', ⟨o', n', e', _, _, d'⟩, _⟩ := I.list h'
  rw [e] at e'; cases e'
  rw [d] at d'
  injection d' with d1 _
  have : its = its' := by simpa using congrArg Array.toList d1
  subst this
  exact r.inj r'
theorem Inv.tuple_inj (I : Inv X pins σ H s) (h : SqT X.K H a xs) (h' : SqT X.K H a ys) : xs = ys := by
  obtain ⟨its, r, ⟨o, e, _, n, d⟩, _⟩ := I.tuple h
  obtain ⟨its', r', ⟨o', e', _, n', d'⟩, _⟩ := I.tuple h'
  rw [e] at e'; cases e'
  rw [d] at d'
  injection d' with d1 _
  have : its = its' := by simpa using congrArg Array.toList d1
  subst this
  exact r.inj r'
end

/-! ### another wish about exceptions -/
abbrev Cx.wish (X : Cx) (E : Value → Shared → Prop) : Cx := { X with xe := E }
/-- no exception leaves -/
abbrev Cx.nox (X : Cx) : Cx := X.wish fun _ _ => False
theorem Cx.Ok.wish {X : Cx} (ok : X.Ok) (E : Value → Shared → Prop) : (X.wish E).Ok :=
  ⟨ok.mod, ok.kind, ok.glob, ok.blt, ok.above, ok.inj, ok.has, ok.cab, ok.hd, ok.frames, ok.stk, ok.exf, ok.bs, ok.bsz, ok.noex, ok.exfs, ok.funs, ok.frf⟩
theorem Cx.Ok.unwish {X : Cx} {E : Value → Shared → Prop} (ok : (X.wish E).Ok) : X.Ok :=
  ⟨ok.mod, ok.kind, ok.glob, ok.blt, ok.above, ok.inj, ok.has, ok.cab, ok.hd, ok.frames, ok.stk, ok.exf, ok.bs, ok.bsz, ok.noex, ok.exfs, ok.funs, ok.frf⟩
section
variable {X : Cx} {pins : List (Addr × Obj)} {σ : St} {H : Hp} {s : Shared} {E : Value → Shared → Prop}
theorem Inv.wish (I : Inv X pins σ H s) (E : Value → Shared → Prop) : Inv (X.wish E) pins σ H s := ⟨I.ok.wish E, I.os, I.bare, I.base, I.loc, I.cell, I.free, I.freeC, I.pin, I.hok, I.len⟩
theorem Inv.unwish (I : Inv (X.wish E) pins σ H s) : Inv X pins σ H s := ⟨I.ok.unwish, I.os, I.bare, I.base, I.loc, I.cell, I.free, I.freeC, I.pin, I.hok, I.len⟩
theorem SP.unwish {D : Ends} {f : Flow} {s' : Shared} (h : SP (X.wish E) pins D f s') : SP X pins D f s' := by
  cases f with
  | next => obtain ⟨σ', H', I, q⟩ := h; exact ⟨σ', H', I.unwish, q⟩
  | brk => obtain ⟨σ', H', I, q⟩ := h; exact ⟨σ', H', I.unwish, q⟩
  | cont => obtain ⟨σ', H', I, q⟩ := h; exact ⟨σ', H', I.unwish, q⟩
  | ret u => obtain ⟨v, σ', H', I, r, q⟩ := h; exact ⟨v, σ', H', I.unwish, r, q⟩
theorem PE.nox {e : Expr} {t : TE} (h : PE X.nox e t) : PE X e t := fun pins s σ H Q I hw =>
  wpAny_mono (h pins s σ H Q (I.wish _) hw) (fun _ _ ⟨v, H', I', r, q⟩ => ⟨v, H', I'.unwish, r, q⟩) fun _ _ z => False.elim z
theorem PT.nox {e : Expr} {t : TT} (h : PT X.nox e t) : PT X e t := fun pins s σ H Q I hw =>
  wpAny_mono (h pins s σ H Q (I.wish _) hw) (fun _ _ ⟨H', I', q⟩ => ⟨H', I'.unwish, q⟩) fun _ _ z => False.elim z
theorem PSs.nox {st : List Stmt} {t : TS} (h : PSs X.nox st t) : PSs X st t := fun pins s σ H D I hw =>
  wpAny_mono (h pins s σ H D (I.wish _) hw) (fun _ _ q => q.unwish) fun _ _ z => False.elim z
end

/-! ### blocks and small statements -/
section
variable {X : Cx} {st : Stmt} {rest : List Stmt} {t u : TS} {e : Expr} {te : TE} {pos : Pos}
def tNext : TS := fun D σ H => D.nx σ H
def tSeq (t u : TS) : TS := fun D σ H => t { D with nx := u D } σ H
theorem pss_nil : PSs X [] tNext := fun _ _ σ H _ I h => wpAny_execs_nil ⟨σ, H, I, h⟩
theorem pss_cons (h1 : PS X st t) (h2 : PSs X rest u) : PSs X (st :: rest) (tSeq t u) := by
  intro pins s σ H D I h
  refine wpAny_execs_cons (thn (h1 pins s σ H { D with nx := u D } I h) fun f s1 q => ?_)
  cases f with
  | next =>
    obtain ⟨σ', H', I', q⟩ := q
    exact h2 pins s1 σ' H' D I' q
  | ret v => exact q
  | brk => exact q
  | cont => exact q
/-- in a def's body nothing is shown -/
theorem Inv.quiet {pins : List (Addr × Obj)} {σ : St} {H : Hp} {s : Shared} (I : Inv X pins σ H s) : interactive X.env = false := by simp [interactive, I.ok.kind]
/-- an expression whose value is dropped -/
def tDrop (te : TE) : TS := fun D σ H => te σ H fun _ H1 => D.nx σ H1
theorem ps_expr (he : PE X e te) (hs : swapsWith e none pos.line X.env = pure false := by rfl) : PS X (.Expr e pos) (tDrop te) := by
  intro pins s σ H D I h
  exact wpAny_Expr_any (thn (he pins s σ H _ I h) fun v s1 ⟨x, H1, I1, r1, q1⟩ => ⟨σ, H1, I1, q1⟩) I.quiet hs
def tRet (te : TE) : TS := fun D σ H => te σ H D.rt
theorem ps_ret (he : PE X e te) : PS X (.Return (some e) pos) (tRet te) := by
  intro pins s σ H D I h
  exact wpAny_Return_some (thn (he pins s σ H _ I h) fun v s1 ⟨x, H1, I1, r1, q1⟩ => ⟨x, σ, H1, I1, r1, q1⟩)
def tIfS (c : TT) (t u : TS) : TS := fun D σ H => c σ H fun b H1 => if b = true then t D σ H1 else u D σ H1
theorem ps_if {c : Expr} {a b : List Stmt} {tc : TT} (hc : PT X c tc) (ha : PSs X a t) (hb : PSs X b u) : PS X (.If c a b pos) (tIfS tc t u) := by
  intro pins s σ H D I h
  refine wpAny_If (thn (hc pins s σ H _ I h) fun d s1 ⟨H1, I1, q1⟩ => ?_)
  cases d with
  | true => exact ha pins s1 σ H1 D I1 q1
  | false => exact hb pins s1 σ H1 D I1 q1
/-- code that the proof never comes to -/
def tNever : TS := fun _ _ _ => False
theorem pss_never {sts : List Stmt} : PSs X sts tNever := fun _ _ _ _ _ _ h => h.elim
end

/-! ### targets -/
abbrev TG := V → St → Hp → (St → Hp → Prop) → Prop
abbrev TGs := List V → St → Hp → (St → Hp → Prop) → Prop
def PG (X : Cx) (target : Expr) (t : TG) : Prop :=
  ∀ (pins : List (Addr × Obj)) (s : Shared) (σ : St) (H : Hp) (v : V) (u : Value) (Q : St → Hp → Prop), Inv X pins σ H s → RelV v u → t v σ H Q →
    wpAny (model X.prog X.w) X.A (assign target X.env u) (fun _ s' => ∃ σ' H', Inv X pins σ' H' s' ∧ Q σ' H') X.xe s
/-- several targets, one after another -/
def PGs (X : Cx) (ts : List Expr) (t : TGs) : Prop :=
  ∀ (pins : List (Addr × Obj)) (s : Shared) (σ : St) (H : Hp) (vs : List V) (us : List Value) (Q : St → Hp → Prop), Inv X pins σ H s → Vals vs us → t vs σ H Q →
    wpAny (model X.prog X.w) X.A (assignInOrder ((assignEach ts X.env).map (·.2)) us) (fun _ s' => ∃ σ' H', Inv X pins σ' H' s' ∧ Q σ' H') X.xe s
section
variable {X : Cx} {pos : Pos}
def gName (i : Nat) : TG := fun v σ H Q => Q (σ.set i (some v)) H
theorem pg_name {i : Nat} {x : Str} (hN : X.N.Nodup) (hi : X.N[i]? = some x) (hx : Loc X.env.scope x) (hf : X.fn x = true ∨ X.env.scope.names.lookup x = some .local := by first | exact .inl rfl | exact .inr rfl | assumption) : PG X (.Name x pos) (gName i) := by
  intro pins s σ H v u Q I r h
  exact wpAny_assign_Name (store_ok I hN hi hx r (fun s' I' => ⟨_, H, I', h⟩) hf)
def gNil : TGs := fun vs σ H Q => vs = [] ∧ Q σ H
def gCons (t : TG) (u : TGs) : TGs := fun vs σ H Q => ∃ v r, vs = v :: r ∧ t v σ H fun σ' H' => u r σ' H' Q
theorem pgs_nil : PGs X [] gNil := by
  intro pins s σ H vs us Q I r h
  obtain ⟨e, h⟩ := h
  subst e
  cases r
  exact assignInOrder_nil ⟨σ, H, I, h⟩
theorem pgs_cons {e : Expr} {es : List Expr} {t : TG} {u : TGs} (h1 : PG X e t) (h2 : PGs X es u)
    (hs : (assignEach (e :: es) X.env).map (·.2) = assign e X.env :: (assignEach es X.env).map (·.2) := by rfl) : PGs X (e :: es) (gCons t u) := by
  intro pins s σ H vs us Q I r h
  obtain ⟨v, vr, e1, h⟩ := h
  subst e1
  cases r with
  | cons r rr =>
    rw [hs]
    refine assignInOrder_cons (thn (h1 pins s σ H _ _ _ I r h) fun _ s1 ⟨σ1, H1, I1, q1⟩ => ?_)
    exact h2 pins s1 σ1 H1 _ _ Q I1 rr q1
/-- (a, b, ..) = a tuple of that length -/
def gTup (K : PySem.W.Frag) (n : Nat) (t : TGs) : TG := fun v σ H Q => ∃ a xs, v = .ref a ∧ SqT K H a xs ∧ xs.length = n ∧ t xs σ H Q
theorem pg_tup {es : List Expr} {k : Nat} {t : TGs} {n : Nat} (hc : X.calm = true) (h : PGs X es t)
    (hn : (assignEach es X.env).length = n := by rfl) (hst : (assignEach es X.env).findIdx? (·.1) = none := by rfl) : PG X (.Tuple es k pos) (gTup X.K n t) := by
  intro pins s σ H v u Q I r hw
  obtain ⟨a, xs, e1, hq, hl, hw⟩ := hw
  subst e1
  cases r
  obtain ⟨its, rv, ht, hz⟩ := I.tuple hq
  refine assign_Tuple_tuple (I.ok.hd hc) ht (by simp [hn, ← hl, rv.length]) hst fun h' hx => ?_
  have I1 : Inv X pins σ H { s with heap := h' } := I.kept (t' := s.toks) fun b o e => hx b o (Nat.ne_of_lt (Heap.lt_size e)) e
  exact h pins _ σ H xs _ Q I1 (by simpa using rv) hw
/-- target = value -/
def tAsg (te : TE) (g : TG) : TS := fun D σ H => te σ H fun x H1 => g x σ H1 D.nx
/-- name = value -/
theorem ps_set {i : Nat} {x : Str} {e : Expr} {te : TE} {pos' : Pos} (hN : X.N.Nodup) (hi : X.N[i]? = some x) (hx : Loc X.env.scope x) (he : PE X e te) (hs : swapsWith e (some (.Name x pos')) pos.line X.env = pure false := by rfl) (hf : X.fn x = true ∨ X.env.scope.names.lookup x = some .local := by first | exact .inl rfl | exact .inr rfl | assumption) :
    PS X (.Assign [.Name x pos'] e pos) (tAsg te (gName i)) := by
  intro pins s σ H D I h
  refine wpAny_Assign_Name (thn (he pins s σ H _ I h) fun v s1 ⟨y, H1, I1, r1, q1⟩ => ?_) hs
  exact store_ok I1 hN hi hx r1 (fun s2 I2 => ⟨_, H1, I2, q1⟩) hf
end

/-! ### while -/
section
variable {X : Cx} {pos : Pos}
end

/-! ### what a loop or a comprehension walks -/
/-- at turn i: it yields x (the heap may grow), or it stops -/
structure It where
  go : Nat → Hp → Prop
  yld : Nat → Hp → V → Hp → Prop
  stop : Nat → Hp → Prop
/-- the iterator's own objects may turn: they are not the frame's, not pinned, younger than the entry (or a comprehension's own) -/
def FpOk (X : Cx) (pins : List (Addr × Obj)) (H : Hp) (b : Addr) : Prop :=
  H b = none ∧ b ≠ X.env.locals ∧ b ∉ X.fs ∧ (b ∈ X.ex ∨ X.s₀.heap.objs.size ≤ b) ∧ (∀ x c, X.env.cells.lookup x = some c → c ≠ b) ∧ ∀ p ∈ X.pn ++ pins, p.1 ≠ b
theorem Inv.fpOk {X : Cx} {pins : List (Addr × Obj)} {σ : St} {H H' : Hp} {s : Shared} {b : Addr} (I : Inv X pins σ H s) (hb : s.heap.objs.size ≤ b) (hn : H' b = none) : FpOk X pins H' b := by
  refine ⟨hn, Nat.ne_of_gt (Nat.lt_of_lt_of_le I.lt hb), I.nofs hb, .inr (Nat.le_trans I.sz hb), fun x c e z => ?_, fun p hp z => ?_⟩
  · obtain ⟨v, q⟩ := I.cell x c e
    exact absurd (Nat.lt_of_lt_of_le q.lt (by rw [z]; exact hb)) (Nat.lt_irrefl _)
  · exact absurd (Nat.lt_of_lt_of_le (Heap.lt_size (I.pin p hp).1) (by rw [z]; exact hb)) (Nat.lt_irrefl _)
structure Turn (P : Program) (w : World) (K : PySem.W.Frag) (tg : Expr) (J : It) (fp : List Addr) (it : Addr) (tn : Nat → Heap → Prop) : Prop where
  mem : it ∈ fp
  obj : ∀ i h, tn i h → ∀ b ∈ fp, ∃ o, h.get? b = some o ∧ ∀ v, o.data ≠ .cell v
  keep : ∀ i h h', tn i h → (∀ b ∈ fp, ∀ o, h.get? b = some o → h'.get? b = some o) → tn i h'
  item : ∀ (X : Cx), X.prog = P → X.w = w → X.K = K → X.calm = true → ∀ (i : Nat) (pins : List (Addr × Obj)) (s : Shared) (σ : St) (H : Hp) (E : Value → Shared → Prop), Inv X pins σ H s → (∀ b ∈ fp, FpOk X pins H b) → tn i s.heap → J.go i H →
    wpAny (model P w) X.A (pyNext (.ref it)) (fun r s1 => ∃ u, r = some u ∧
      wpAny (model P w) X.A (letOwnedTupleGo tg (.ref it) u) (fun _ s2 => ∃ x H', Inv X pins σ H' s2 ∧ RelV x u ∧ J.yld i H x H' ∧ tn (i + 1) s2.heap ∧ ∀ b ∈ fp, H' b = none) E s1) E s
  done : ∀ (X : Cx), X.prog = P → X.w = w → X.K = K → X.calm = true → ∀ (i : Nat) (pins : List (Addr × Obj)) (s : Shared) (σ : St) (H : Hp) (E : Value → Shared → Prop), Inv X pins σ H s → (∀ b ∈ fp, FpOk X pins H b) → tn i s.heap → J.stop i H →
    wpAny (model P w) X.A (pyNext (.ref it)) (fun r s1 => r = none ∧ Inv X pins σ H s1) E s
  self : ∀ (A : Around) (i : Nat) (s : Shared) (Q : Value → Shared → Prop) (E : Value → Shared → Prop), tn i s.heap → Q (.ref it) s → wpAny (model P w) A (pyIter (.ref it)) Q E s
abbrev TI := St → Hp → (It → Hp → Prop) → Prop
/-- an iterator has come -/
def PIE (X : Cx) (pins : List (Addr × Obj)) (σ : St) (tg : Expr) (R : It → Hp → Prop) (itv : Value) (s2 : Shared) : Prop :=
  ∃ (it : Addr) (fp : List Addr) (tn : Nat → Heap → Prop) (J : It) (H' : Hp), itv = .ref it ∧ Inv X pins σ H' s2 ∧ Turn X.prog X.w X.K tg J fp it tn ∧ tn 0 s2.heap ∧ (∀ b ∈ fp, FpOk X pins H' b) ∧ R J H'
def PI (X : Cx) (tg iter : Expr) (wi : TI) : Prop :=
  ∀ (pins : List (Addr × Obj)) (s : Shared) (σ : St) (H : Hp) (R : It → Hp → Prop), Inv X pins σ H s → wi σ H R →
    wpAny (model X.prog X.w) X.A (eval iter X.env) (fun v s1 => wpAny (model X.prog X.w) X.A (pyIter v) (PIE X pins σ tg R) X.xe s1) X.xe s

/-- the step ahead of the store is nothing for an iterator that keeps no tuple -/
theorem go_of {M : Model} {A : Around} {E : Value → Shared → Prop} {s : Shared} {tg : Expr} {it : Addr} {u : Value} {o : Obj} {n : String} {vs : Array Value} {Q : Unit → Shared → Prop} (ho : s.heap.get? it = some o) (hc : o.cls = .type n) (hd : o.data = .fields vs)
    (hn : ["enumerate", "zip", "dict_itemiterator", "dict_reverseitemiterator", "odict_iterator", "itertools.zip_longest", "itertools.pairwise"].contains n = false) (hQ : Q () s) : wpAny M A (letOwnedTupleGo tg (.ref it) u) Q E s := by
  unfold letOwnedTupleGo
  cases tg <;> first
    | exact wpAny_pure hQ
    | (cases u <;> first
        | exact wpAny_pure hQ
        | (refine wpAny_bind (wpAny_load ho ?_)
           rw [hc, hd]
           show wpAny M A (if (["enumerate", "zip", "dict_itemiterator", "dict_reverseitemiterator", "odict_iterator", "itertools.zip_longest", "itertools.pairwise"].contains n && vs[0]? == some (rawInt _)) = true then _ else _) Q E s
           rw [if_neg (by intro h; rw [hn, Bool.false_and] at h; cases h)]
           exact wpAny_pure hQ))

/-- the list at a, as it stands at each turn (a loop may append to it) -/
def Itl (K : PySem.W.Frag) (a : Addr) : It :=
  ⟨fun i H => ∃ xs x, SqL K H a xs ∧ xs[i]? = some x, fun i H x H' => H' = H ∧ ∀ xs, SqL K H a xs → xs[i]? = some x, fun i H => ∃ xs, SqL K H a xs ∧ xs.length ≤ i⟩
/-- lo, lo + 1, .. (n of them) -/
def Itr (lo : Int) (n : Nat) : It := ⟨fun i _ => i < n, fun i H x H' => H' = H ∧ x = .int (lo + i), fun i _ => n ≤ i⟩
theorem turn_list {P : Program} {w : World} {K : PySem.W.Frag} {tg : Expr} (a it : Addr) : Turn P w K tg (Itl K a) [it] it (fun i h => h.IsListIter it a i) where
  mem := by simp
  obj := fun i h st b hb => by
    have e : b = it := by simpa using hb
    subst e
    obtain ⟨o, e, c, d⟩ := st
    exact ⟨o, e, fun v z => by rw [d] at z; cases z⟩
  keep := fun i h h' st k => st.at fun o e => k it (by simp) o e
  item := by
    intro X hP hw hK hc i pins s σ H E I hf st hg
    subst hP hw hK
    obtain ⟨xs, x, hq, hx⟩ := hg
    obtain ⟨its, rv, p, hz⟩ := I.list hq
    obtain ⟨u, hu, ru⟩ := rv.get hx
    obtain ⟨f0, f1, f2, f3, f4, f5⟩ := hf it (by simp)
    refine wpAny_pyNext_list_item st p.isList (x := u) (by simpa using hu) fun h' st' sb => ?_
    have I1 : Inv X pins σ H { s with heap := h' } := I.turned (t' := s.toks) (fun b o hb e => (sb.2 b hb).trans e) f0 f1 f3 f4 f5
    obtain ⟨o, e, c, d⟩ := id st'
    exact ⟨u, rfl, go_of (s := { s with heap := h' }) e c d (by decide) ⟨x, H, I1, ru, ⟨rfl, fun ys hy => by rw [I.list_inj hy hq]; exact hx⟩, st', fun b hb => (hf b hb).1⟩⟩
  done := by
    intro X hP hw hK hc i pins s σ H E I hf st hg
    subst hP hw hK
    obtain ⟨xs, hq, hx⟩ := hg
    obtain ⟨its, rv, p, hz⟩ := I.list hq
    obtain ⟨f0, f1, f2, f3, f4, f5⟩ := hf it (by simp)
    have hl := rv.length
    exact wpAny_pyNext_list_end (I.ok.hd hc) st p.isList (by simp; omega) fun h' eb => ⟨rfl, I.turned (t' := s.toks) (fun b o hb e => eb b o hb e) f0 f1 f3 f4 f5⟩
  self := fun _ _ _ _ _ st h => wpAny_pyIter_listiter st h
theorem turn_range {P : Program} {w : World} {K : PySem.W.Frag} {tg : Expr} (it : Addr) (lo : Int) (n : Nat) : Turn P w K tg (Itr lo n) [it] it (fun i h => IsRangeIter h it (lo + (i : Nat) * 1) ((n : Int) - (i : Nat)) 1) where
  mem := by simp
  obj := fun i h st b hb => by
    have e : b = it := by simpa using hb
    subst e
    exact ⟨_, st, fun v z => by
      have z' : Data.fields _ = Data.cell v := z
      cases z'⟩
  keep := fun i h h' st k => k it (by simp) _ st
  item := by
    intro X hP hw hK hc i pins s σ H E I hf st hg
    subst hP hw hK
    obtain ⟨f0, f1, f2, f3, f4, f5⟩ := hf it (by simp)
    have W := Walks.range (prog := X.prog) (w := X.w) (I.ok.hd hc) it lo 1 n
    refine W.item i s _ _ hg st fun v h' tk hv st' kk => ?_
    obtain ⟨t, rfl⟩ := hv
    have I1 : Inv X pins σ H { s with heap := h', toks := tk } := I.turned (fun b o hb e => kk b o (by simpa using hb) e) f0 f1 f3 f4 f5
    refine ⟨_, rfl, go_of (s := { s with heap := h', toks := tk }) (n := "range_iterator") st' rfl rfl (by decide) ⟨.int (lo + i), H, I1, ⟨t, ?_⟩, ⟨rfl, rfl⟩, st', fun b hb => (hf b hb).1⟩⟩
    rw [Int.mul_one]
  done := by
    intro X hP hw hK hc i pins s σ H E I hf st hg
    subst hP hw hK
    obtain ⟨f0, f1, f2, f3, f4, f5⟩ := hf it (by simp)
    exact wpAny_pyNext_range_end (I.ok.hd hc) st (by have : n ≤ i := hg; omega) fun h' eb => ⟨rfl, I.turned (t' := s.toks) (fun b o hb e => eb b o hb e) f0 f1 f3 f4 f5⟩
  self := fun _ _ _ _ _ st h => wpAny_pyIter_rangeiter st h
end L2

namespace L2
open PySem PySem.Spec PyProof.Rows
section
variable {X : Cx} {tg : Expr}
def iList (K : PySem.W.Frag) (tl : TE) : TI := fun σ H R => tl σ H fun x H1 => ∃ a, x = .ref a ∧ (∃ xs, SqL K H1 a xs) ∧ R (Itl K a) H1
theorem pi_list {l : Expr} {tl : TE} (hl : PE X l tl) : PI X tg l (iList X.K tl) := by
  intro pins s σ H R I h
  refine thn (hl pins s σ H _ I h) fun v s1 ⟨x, H1, I1, r1, q1⟩ => ?_
  obtain ⟨a, e, ⟨xs, hq⟩, q⟩ := q1
  subst e
  cases r1
  obtain ⟨its, rv, p, hz⟩ := I1.list hq
  refine wpAny_pyIter_list p.isList ?_
  refine ⟨s1.heap.objs.size, [s1.heap.objs.size], _, _, H1, rfl, I1.kept (t' := s1.toks) fun b o e => Heap.get?_push_of_some _ e, turn_list a _, ⟨_, Heap.get?_push_size _ rfl, rfl, rfl⟩, fun b hb => ?_, q⟩
  have e : b = s1.heap.objs.size := by simpa using hb
  subst e
  exact I1.fpOk (Nat.le_refl _) (I1.hok.fresh (Nat.le_refl _))
/-- a range object just made, walked -/
theorem range_it {pins : List (Addr × Obj)} {σ : St} {H : Hp} {s : Shared} {R : It → Hp → Prop} {E : Value → Shared → Prop} {lo hi : Int} {t u v : Tok} {tk : Nat} (I : Inv X pins σ H s) (h1 : -(2 ^ 62) ≤ lo) (h2 : lo < 2 ^ 62) (h3 : -(2 ^ 62) ≤ hi) (h4 : hi < 2 ^ 62)
    (q : R (Itr lo (hi - lo).toNat) H) : wpAny (model X.prog X.w) X.A (pyIter (.ref s.heap.objs.size)) (PIE X pins σ tg R) E { s with heap := s.heap.push { cls := .type "range", data := .fields #[.int lo t, .int hi u, .int 1 v] }, toks := tk } := by
  refine wpAny_pyIter_range (IsRange.new ..) (small_one h1 h2 h3 h4) ?_
  have I1 : Inv X pins σ H { s with heap := s.heap.push { cls := .type "range", data := .fields #[.int lo t, .int hi u, .int 1 v] }, toks := tk } := I.kept fun b o e => Heap.get?_push_of_some _ e
  refine ⟨(s.heap.push { cls := .type "range", data := .fields #[.int lo t, .int hi u, .int 1 v] }).objs.size, [(s.heap.push { cls := .type "range", data := .fields #[.int lo t, .int hi u, .int 1 v] }).objs.size], _, _, H, rfl,
    I1.kept (t' := tk) fun b o e => Heap.get?_push_of_some _ e, turn_range _ lo (hi - lo).toNat, ?_, fun b hb => ?_, q⟩
  · have e1 : lo + ((0 : Nat) : Int) * 1 = lo := by simp
    have e2 : (((hi - lo).toNat : Nat) : Int) - ((0 : Nat) : Int) = Builtin.Range.rangeSize lo hi 1 := by rw [rangeSize_one]; split <;> omega
    show IsRangeIter _ _ (lo + ((0 : Nat) : Int) * 1) ((((hi - lo).toNat : Nat) : Int) - ((0 : Nat) : Int)) 1
    rw [e1, e2]
    exact Heap.get?_push_size _ rfl
  · have e : b = (s.heap.push { cls := .type "range", data := .fields #[.int lo t, .int hi u, .int 1 v] }).objs.size := by simpa using hb
    subst e
    exact I1.fpOk (Nat.le_refl _) (I1.hok.fresh (Nat.le_refl _))
def iRng1 (ta : TA) : TI := fun σ H R => ta σ H fun vs H1 => ∃ j : Int, vs = [.int j] ∧ -(2 ^ 62) ≤ j ∧ j < 2 ^ 62 ∧ R (Itr 0 j.toNat) H1
theorem pi_range1 {a : Expr} {ta : TA} {p pos : Pos} (hg : Gl X "range") (hm : X.mg "range" = none) (ha : PA X [a] ta) (hs : starEach [a] X.env = [(false, eval a X.env)] := by rfl) : PI X tg (.Call (.Name "range" p) [a] [] pos) (iRng1 ta) := by
  intro pins s σ H R I h
  refine Call_ (ld_blt I hg hm boot_range (PyProof.Rows.callWith_type1 (thn (ha pos pins s σ H _ I h) fun us s1 ⟨vs, H1, I1, r1, q1⟩ => ?_) hs rfl))
  obtain ⟨j, e, q1, q2, q⟩ := q1
  subst e
  cases r1 with
  | cons r rr =>
    cases rr
    obtain ⟨t, rfl⟩ := r
    exact call_range_1 (range_it I1 (by omega) (by omega) q1 q2 (by simpa using q))
/-! ### for -/
/-- W: the invariant by the turn and a measure; N: what the body is to reach -/
def tFor (wi : TI) (g : TG) (tb : TS) : TS := fun D σ H => wi σ H fun J H1 => ∃ W : Nat → Nat → St → Hp → Prop, (∃ m, W 0 m σ H1) ∧ ∀ i m σ H, W i m σ H →
  (J.stop i H ∧ D.nx σ H) ∨ (J.go i H ∧ ∃ N : St → Hp → Prop, (∀ σ' H', N σ' H' → ∃ m', m' < m ∧ W (i + 1) m' σ' H') ∧ ∀ x H', J.yld i H x H' → g x σ H' fun σ2 H2 => tb { D with nx := N, ct := N, bk := D.nx } σ2 H2)
/-- the records at fp as they stand -/
def pinsAt (fp : List Addr) (h : Heap) : List (Addr × Obj) := fp.filterMap fun b => (h.get? b).map fun o => (b, o)
theorem mem_pinsAt {fp : List Addr} {h : Heap} {b : Addr} {o : Obj} (hb : b ∈ fp) (e : h.get? b = some o) : (b, o) ∈ pinsAt fp h := List.mem_filterMap.mpr ⟨b, hb, by rw [e]; rfl⟩
theorem of_pinsAt {fp : List Addr} {h : Heap} {p : Addr × Obj} (hp : p ∈ pinsAt fp h) : p.1 ∈ fp ∧ h.get? p.1 = some p.2 := by
  obtain ⟨b, hb, e⟩ := List.mem_filterMap.mp hp
  cases q : h.get? b with
  | none => rw [q] at e; cases e
  | some o =>
    rw [q] at e
    have e' : (b, o) = p := Option.some.inj e
    subst e'
    exact ⟨hb, q⟩
theorem Inv.pinned {pins : List (Addr × Obj)} {σ : St} {H : Hp} {s : Shared} {fp : List Addr} (I : Inv X pins σ H s) (hf : ∀ b ∈ fp, FpOk X pins H b) (ho : ∀ b ∈ fp, ∃ o, s.heap.get? b = some o ∧ ∀ v, o.data ≠ .cell v) : Inv X (pins ++ pinsAt fp s.heap) σ H s :=
  I.pins_of fun p hp => (List.mem_append.mp hp).elim (fun z => I.pin p (List.mem_append_right _ z)) fun z => by
    obtain ⟨hb, e⟩ := of_pinsAt z
    obtain ⟨f0, f1, f2, _⟩ := hf p.1 hb
    obtain ⟨o, e', d⟩ := ho p.1 hb
    rw [e] at e'; cases e'
    exact ⟨e, f0, f1, f2, d⟩
theorem Inv.unpinned {pins pl : List (Addr × Obj)} {σ : St} {H : Hp} {s : Shared} (I : Inv X (pins ++ pl) σ H s) : Inv X pins σ H s := I.pins_of fun p hp => I.pin p (List.mem_append_right _ (List.mem_append_left _ hp))
theorem ps_for {iter : Expr} {body : List Stmt} {wi : TI} {g : TG} {tb : TS} {pos : Pos} (hp : PassesOwn (model X.prog X.w) X.A X.env X.xe) (hc : X.calm = true) (hi : PI X tg iter wi) (hg : PG X tg g) (hb : PSs X body tb)
    (hs : ∀ x, foldedSetIterable iter X.env x = pure x := by intro _; rfl) : PS X (.For tg iter body [] pos) (tFor wi g tb) := by
  intro pins s σ H D I h
  refine wpAny_For (thn (hi pins s σ H _ I h) fun v s1 h1 => thn h1 fun itv s2 h2 => ?_) hs
  obtain ⟨it, fp, tn, J, H2, e, I2, T, st2, f2, W, ⟨m0, w0⟩, turn⟩ := h2
  subst e
  -- what stays true of the iterator's objects through the loop
  have stat : ∀ {H' : Hp}, (∀ b ∈ fp, H' b = none) → ∀ b ∈ fp, FpOk X pins H' b := fun hn b hb => ⟨hn b hb, (f2 b hb).2⟩
  refine codeAny_forLoop_any (fun n s' => ∃ i σ' H', Inv X pins σ' H' s' ∧ tn i s'.heap ∧ (∀ b ∈ fp, H' b = none) ∧ W i n σ' H') ?_ m0 ⟨0, σ, H2, I2, st2, fun b hb => (f2 b hb).1, w0⟩
  rintro n s3 ⟨i, σ3, H3, I3, st3, fr3, w3⟩
  rcases turn i n σ3 H3 w3 with ⟨stop, qn⟩ | ⟨go, N, hN, step⟩
  · refine wpAny_passesOwn hp (thn (T.done X rfl rfl rfl hc i pins s3 σ3 H3 X.xe I3 (stat fr3) st3 stop) fun r s4 ⟨hr, I4⟩ => ?_)
    subst hr
    exact wpAny_execs_nil ⟨σ3, H3, I4, qn⟩
  · refine wpAny_passesOwn hp (thn (T.item X rfl rfl rfl hc i pins s3 σ3 H3 X.xe I3 (stat fr3) st3 go) fun r s4 ⟨u, hr, h4⟩ => ?_)
    subst hr
    refine wpAny_passesOwn hp (thn h4 fun _ s5 ⟨x, H5, I5, r5, y5, st5, fr5⟩ => ?_)
    have I5' := I5.pinned (stat fr5) (T.obj _ _ st5)
    refine wpAny_passesOwn hp (thn (hg _ s5 σ3 H5 x u _ I5' r5 (step x H5 y5)) fun _ s6 ⟨σ6, H6, I6, q6⟩ => ?_)
    refine wpAny_passesOwn hp (thn (hb _ s6 σ6 H6 _ I6 q6) fun f s7 q7 => ?_)
    have again : ∀ {σ7 : St} {H7 : Hp}, Inv X (pins ++ pinsAt fp s5.heap) σ7 H7 s7 → N σ7 H7 → ∃ m, m < n ∧ ∃ i σ' H', Inv X pins σ' H' s7 ∧ tn i s7.heap ∧ (∀ b ∈ fp, H' b = none) ∧ W i m σ' H' := fun {σ7 H7} I7 n7 => by
      obtain ⟨m', hm, w7⟩ := hN σ7 H7 n7
      refine ⟨m', hm, i + 1, σ7, H7, I7.unpinned, T.keep _ _ _ st5 fun b hb o e => (I7.pin (b, o) (List.mem_append_right _ (List.mem_append_right _ (mem_pinsAt hb e)))).1, fun b hb => ?_, w7⟩
      obtain ⟨o, e, d⟩ := T.obj _ _ st5 b hb
      exact (I7.pin (b, o) (List.mem_append_right _ (List.mem_append_right _ (mem_pinsAt hb e)))).2.1
    cases f with
    | next => obtain ⟨σ7, H7, I7, n7⟩ := q7; exact again I7 n7
    | cont => obtain ⟨σ7, H7, I7, n7⟩ := q7; exact again I7 n7
    | brk => obtain ⟨σ7, H7, I7, q7⟩ := q7; exact ⟨σ7, H7, I7.unpinned, q7⟩
    | ret v => obtain ⟨x7, σ7, H7, I7, r7, q7⟩ := q7; exact ⟨x7, σ7, H7, I7.unpinned, r7, q7⟩
end

/-! ### the forms one uses -/
end L2

namespace L2
open PySem PySem.Spec PyProof.Rows

abbrev R2 := V → V → Hp → VK → Prop
/-- a two-place operation on values: f is binaryOp op, inplaceOp op or compareOp op -/
def OpR (X : Cx) (f : Value → Value → Sem Value) (r : R2) : Prop :=
  ∀ (pins : List (Addr × Obj)) (s : Shared) (σ : St) (H : Hp) (x y : V) (v u : Value) (Q : VK), Inv X pins σ H s → RelV x v → RelV y u → r x y H Q →
    wpAny (model X.prog X.w) X.A (f v u) (EP X pins σ Q) X.xe s
/-- a one-place operation -/
def UnR (X : Cx) (f : Value → Sem Value) (r : V → Hp → VK → Prop) : Prop :=
  ∀ (pins : List (Addr × Obj)) (s : Shared) (σ : St) (H : Hp) (x : V) (v : Value) (Q : VK), Inv X pins σ H s → RelV x v → r x H Q →
    wpAny (model X.prog X.w) X.A (f v) (EP X pins σ Q) X.xe s
/-- a call of a value that is known (a builtin, a type) with values -/
def CallR (X : Cx) (f : Value) (r : List V → Hp → VK → Prop) : Prop :=
  ∀ (pins : List (Addr × Obj)) (s : Shared) (σ : St) (H : Hp) (xs : List V) (us : List Value) (Q : VK), Inv X pins σ H s → Vals xs us → r xs H Q →
    wpAny (model X.prog X.w) X.A (call f us) (EP X pins σ Q) X.xe s
def tOp (r : R2) (ta tb : TE) : TE := fun σ H Q => ta σ H fun x H1 => tb σ H1 fun y H2 => r x y H2 Q
def tUn (r : V → Hp → VK → Prop) (ta : TE) : TE := fun σ H Q => ta σ H fun x H1 => r x H1 Q
/-- ints in, under C, and a value out -/
def rI (C : Int → Int → Prop) (g : Int → Int → V) : R2 := fun x y H Q => ∃ i j, x = .int i ∧ y = .int j ∧ C i j ∧ Q (g i j) H
def rI0 (g : Int → Int → V) : R2 := fun x y H Q => ∃ i j, x = .int i ∧ y = .int j ∧ Q (g i j) H
def rU (g : Int → V) : V → Hp → VK → Prop := fun x H Q => ∃ i, x = .int i ∧ Q (g i) H

section
variable {X : Cx} {a b c : Expr} {ta tb tc : TE} {pos : Pos}

theorem binT (ha : PE X a ta) (hb : PE X b tb) {pins : List (Addr × Obj)} {s : Shared} {σ : St} {H : Hp} {R : V → V → Hp → Prop} (I : Inv X pins σ H s)
    (h : ta σ H fun x H1 => tb σ H1 fun y H2 => R x y H2) {Q : Value → Shared → Prop} {f : Value → Value → Sem Value}
    (hf : ∀ v u s2 x y H2, Inv X pins σ H2 s2 → RelV x v → RelV y u → R x y H2 → wpAny (model X.prog X.w) X.A (f v u) Q X.xe s2) :
    wpAny (model X.prog X.w) X.A (eval a X.env) (fun v s₁ => wpAny (model X.prog X.w) X.A (eval b X.env) (fun u s₂ => wpAny (model X.prog X.w) X.A (f v u) Q X.xe s₂) X.xe s₁) X.xe s := by
  refine thn (ha pins s σ H _ I h) fun v s1 ⟨x, H1, I1, r1, q1⟩ => ?_
  refine thn (hb pins s1 σ H1 _ I1 q1) fun u s2 ⟨y, H2, I2, r2, q2⟩ => ?_
  exact hf v u s2 x y H2 I2 r1 r2 q2

theorem pe_op {op : Operator} {r : R2} (ho : OpR X (binaryOp op) r) (ha : PE X a ta) (hb : PE X b tb) : PE X (.BinOp a op b pos) (tOp r ta tb) := by
  intro pins s σ H Q I h
  exact wpAny_BinOp (binT ha hb I h fun v u s2 x y H2 I2 rx ry q => ho pins s2 σ H2 x y v u Q I2 rx ry q)
theorem pe_un {op : UnaryOp} {r : V → Hp → VK → Prop} (ho : UnR X (unaryOp op) r) (ha : PE X a ta) : PE X (.UnaryOp op a pos) (tUn r ta) := by
  intro pins s σ H Q I h
  exact UnaryOp_ (thn (ha pins s σ H _ I h) fun v s1 ⟨x, H1, I1, r1, q1⟩ => ho pins s1 σ H1 x v Q I1 r1 q1)
/-! ### ints -/
theorem opI {f : Value → Value → Sem Value} {C : Int → Int → Prop} {g : Int → Int → Int}
    (rule : ∀ (i j : Int) (t u : Tok) (s : Shared) (Q : Value → Shared → Prop) (E : Value → Shared → Prop), C i j → Q (.int (g i j) s.toks) { s with toks := s.toks + 1 } → wpAny (model X.prog X.w) X.A (f (.int i t) (.int j u)) Q E s) :
    OpR X f (rI C fun i j => .int (g i j)) := by
  intro pins s σ H x y v u Q I rx ry h
  obtain ⟨i, j, rfl, rfl, hc, q⟩ := h
  obtain ⟨t, rfl⟩ := rx
  obtain ⟨t', rfl⟩ := ry
  exact rule i j t t' s _ _ hc ⟨.int (g i j), H, I.tok _, ⟨_, rfl⟩, q⟩
theorem opI0 {f : Value → Value → Sem Value} {g : Int → Int → Int}
    (rule : ∀ (i j : Int) (t u : Tok) (s : Shared) (Q : Value → Shared → Prop) (E : Value → Shared → Prop), Q (.int (g i j) s.toks) { s with toks := s.toks + 1 } → wpAny (model X.prog X.w) X.A (f (.int i t) (.int j u)) Q E s) :
    OpR X f (rI0 fun i j => .int (g i j)) := by
  intro pins s σ H x y v u Q I rx ry h
  obtain ⟨i, j, rfl, rfl, q⟩ := h
  obtain ⟨t, rfl⟩ := rx
  obtain ⟨t', rfl⟩ := ry
  exact rule i j t t' s _ _ ⟨.int (g i j), H, I.tok _, ⟨_, rfl⟩, q⟩
theorem opB0 {f : Value → Value → Sem Value} {g : Int → Int → Bool}
    (rule : ∀ (i j : Int) (t u : Tok) (s : Shared) (Q : Value → Shared → Prop) (E : Value → Shared → Prop), Q (.bool (g i j)) s → wpAny (model X.prog X.w) X.A (f (.int i t) (.int j u)) Q E s) :
    OpR X f (rI0 fun i j => .bl (g i j)) := by
  intro pins s σ H x y v u Q I rx ry h
  obtain ⟨i, j, rfl, rfl, q⟩ := h
  obtain ⟨t, rfl⟩ := rx
  obtain ⟨t', rfl⟩ := ry
  exact rule i j t t' s _ _ ⟨.bl (g i j), H, I, rfl, q⟩

def CDiv (i j : Int) : Prop := 0 < j ∧ j < 1073741824
def CPow (i j : Int) : Prop := 0 ≤ j ∧ j ≤ 1000000 ∧ i.natAbs < 2 ^ 64
def CMul (i j : Int) : Prop := (-(2 ^ 64) < i ∧ i < 2 ^ 64) ∨ (-(2 ^ 64) < j ∧ j < 2 ^ 64)
theorem CMul.ok {i j : Int} (h : CMul i j) : IntMulOk i j := by
  rcases h with ⟨h1, h2⟩ | ⟨h1, h2⟩
  · exact .of_left (intBits_le_64 h1 h2)
  · exact .of_right (intBits_le_64 h1 h2)
theorem op_add : OpR X (binaryOp .Add) (rI0 fun i j => .int (i + j)) := opI0 fun _ _ _ _ _ _ _ q => add_int q
theorem op_sub : OpR X (binaryOp .Sub) (rI0 fun i j => .int (i - j)) := opI0 fun _ _ _ _ _ _ _ q => sub_int q
theorem op_mul : OpR X (binaryOp .Mult) (rI CMul fun i j => .int (i * j)) := opI fun _ _ _ _ _ _ _ hc q => mul_int q hc.ok
/-- // by a positive divisor -/
theorem op_fdiv : OpR X (binaryOp .FloorDiv) (rI CDiv fun i j => .int (i / j)) := opI fun i j _ _ _ _ _ hc q => by
  have h1 : (0 : Int) < j := hc.1
  have h2 : j < 1073741824 := hc.2
  exact floordiv_int (by omega) (by rw [Int.fdiv_eq_ediv_of_nonneg i (by omega)]; exact q) (.inl (PyProof.noPylong_small (by omega)))
/-- % by a positive divisor of any size -/
theorem op_mod : OpR X (binaryOp .Mod) (rI (fun _ j => 0 < j) fun i j => .int (i % j)) := opI fun i j _ _ _ _ _ hc q => by
  have h1 : (0 : Int) < j := hc
  exact mod_int' (by omega) (by rw [Int.fmod_eq_emod_of_nonneg i (by omega)]; exact q)
theorem op_pow : OpR X (binaryOp .Pow) (rI CPow fun i j => .int (i ^ j.toNat)) := opI fun _ _ _ _ _ _ _ hc q => pow_int_small hc.1 hc.2.1 hc.2.2 q
theorem unI {f : Value → Sem Value} {g : Int → Int}
    (rule : ∀ (i : Int) (t : Tok) (s : Shared) (Q : Value → Shared → Prop) (E : Value → Shared → Prop), Q (.int (g i) s.toks) { s with toks := s.toks + 1 } → wpAny (model X.prog X.w) X.A (f (.int i t)) Q E s) :
    UnR X f (rU fun i => .int (g i)) := by
  intro pins s σ H x v Q I rx h
  obtain ⟨i, rfl, q⟩ := h
  obtain ⟨t, rfl⟩ := rx
  exact rule i t s _ _ ⟨.int (g i), H, I.tok _, ⟨_, rfl⟩, q⟩
theorem un_neg : UnR X (unaryOp .USub) (rU fun i => .int (-i)) := unI fun _ _ _ _ _ q => neg_int q
/-! ### bools among ints: n += (a < b) -/
end

/-! ### comparisons -/
/-- the scalars that == tells apart as data does -/
def scal : V → V → Bool
  | .non, .non => true | .non, .int _ => true | .int _, .non => true | .non, .bl _ => true | .bl _, .non => true | .non, .str _ => true | .str _, .non => true
  | .int _, .int _ => true | .bl _, .bl _ => true | .str _, .str _ => true | .byt _, .byt _ => true
  | .int _, .str _ => true | .str _, .int _ => true | .bl _, .str _ => true | .str _, .bl _ => true
  | _, _ => false
def rEq : R2 := fun x y H Q => scal x y = true ∧ Q (.bl (decide (x = y))) H
theorem dec_int {i j : Int} : decide (V.int i = V.int j) = (i == j) := by
  rw [Bool.eq_iff_iff]
  simp
theorem dec_bl {i j : Bool} : decide (V.bl i = V.bl j) = (i == j) := by
  rw [Bool.eq_iff_iff]
  simp
theorem dec_str {i j : Str} : decide (V.str i = V.str j) = (i == j) := by
  rw [Bool.eq_iff_iff]
  simp
theorem dec_byt {i j : Array UInt8} : decide (V.byt i = V.byt j) = (i.toList == j.toList) := by
  rw [Bool.eq_iff_iff]
  cases i
  cases j
  simp

section
variable {X : Cx} {a b c : Expr} {ta tb tc : TE} {pos : Pos}
theorem fin_bl {pins : List (Addr × Obj)} {σ : St} {H : Hp} {s : Shared} {Q : VK} {k k' : Bool} (I : Inv X pins σ H s) (q : Q (.bl k) H) (e : k = k') : EP X pins σ Q (.bool k') s := by
  subst e
  exact ⟨.bl k, H, I, rfl, q⟩
theorem op_eq : OpR X (compareOp .Eq) rEq := by
  intro pins s σ H x y v u Q I rx ry h
  obtain ⟨hs, q⟩ := h
  cases x with
  | non =>
    cases rx
    cases y with
    | non => cases ry; exact PySem.EqNone.eq_none_none (fin_bl I q (by simp))
    | bl j => cases ry; exact PySem.EqNone.eq_none_bool (fin_bl I q (by simp))
    | int j => obtain ⟨t', rfl⟩ := ry; exact PySem.EqNone.eq_none_int (fin_bl I q (by simp))
    | str j => obtain ⟨t', rfl⟩ := ry; exact PySem.EqNone.eq_none_str (fin_bl I q (by simp))
    | _ => exact absurd (show false = true from hs) Bool.false_ne_true
  | bl i =>
    cases rx
    cases y with
    | non => cases ry; exact PySem.EqNone.eq_bool_none (fin_bl I q (by simp))
    | bl j => cases ry; exact eq_bool (fin_bl I q dec_bl)
    | str j => obtain ⟨t', rfl⟩ := ry; exact PySem.EqMixed.eq_bool_str (fin_bl I q (by simp))
    | _ => exact absurd (show false = true from hs) Bool.false_ne_true
  | int i =>
    obtain ⟨t, rfl⟩ := rx
    cases y with
    | non => cases ry; exact PySem.EqNone.eq_int_none (fin_bl I q (by simp))
    | int j => obtain ⟨t', rfl⟩ := ry; exact eq_int (fin_bl I q dec_int)
    | str j => obtain ⟨t', rfl⟩ := ry; exact PySem.EqMixed.eq_int_str (fin_bl I q (by simp))
    | _ => exact absurd (show false = true from hs) Bool.false_ne_true
  | str i =>
    obtain ⟨t, rfl⟩ := rx
    cases y with
    | non => cases ry; exact PySem.EqNone.eq_str_none (fin_bl I q (by simp))
    | bl j => cases ry; exact PySem.EqMixed.eq_str_bool (fin_bl I q (by simp))
    | int j => obtain ⟨t', rfl⟩ := ry; exact PySem.EqMixed.eq_str_int (fin_bl I q (by simp))
    | str j => obtain ⟨t', rfl⟩ := ry; exact eq_str (fin_bl I q dec_str)
    | _ => exact absurd (show false = true from hs) Bool.false_ne_true
  | byt i =>
    obtain ⟨t, rfl⟩ := rx
    cases y with
    | byt j => obtain ⟨t', rfl⟩ := ry; exact PySem.W.eq_bytes (fin_bl I q dec_byt)
    | _ => exact absurd (show false = true from hs) Bool.false_ne_true
  | _ => cases y <;> exact absurd (show false = true from hs) Bool.false_ne_true
theorem op_lt : OpR X (compareOp .Lt) (rI0 fun i j => .bl (decide (i < j))) := opB0 fun _ _ _ _ _ _ _ q => lt_int q
theorem op_le : OpR X (compareOp .LtE) (rI0 fun i j => .bl (decide (i ≤ j))) := opB0 fun _ _ _ _ _ _ _ q => le_int q
theorem op_gt : OpR X (compareOp .Gt) (rI0 fun i j => .bl (decide (j < i))) := opB0 fun _ _ _ _ _ _ _ q => gt_int q
/-- is None, is not None: the right side a value none -/
theorem op_isN : OpR X (compareOp .Is) (fun x y H Q => y = .non ∧ Q (.bl (decide (x = .non))) H) := by
  intro pins s σ H x y v u Q I rx ry h
  obtain ⟨rfl, q⟩ := h
  cases ry
  refine is_none_gen (fin_bl I q ?_)
  cases x <;> first
    | (cases rx; rfl)
    | (obtain ⟨t, rfl⟩ := rx; rfl)
/-- two rules for one operation: by cases -/
theorem OpR.or {f : Value → Value → Sem Value} {r r' : R2} (h : OpR X f r) (h' : OpR X f r') : OpR X f (fun x y H Q => r x y H Q ∨ r' x y H Q) := by
  intro pins s σ H x y v u Q I rx ry q
  rcases q with q | q
  · exact h pins s σ H x y v u Q I rx ry q
  · exact h' pins s σ H x y v u Q I rx ry q

theorem nomark (b : Expr) {op : CmpOp} (h : op ≠ .In := by decide) (h2 : op ≠ .NotIn := by decide) : behindInMarks op b = false := by
  have e1 : (op == CmpOp.In) = false := by cases op <;> first | rfl | exact absurd rfl h
  have e2 : (op == CmpOp.NotIn) = false := by cases op <;> first | rfl | exact absurd rfl h2
  cases b <;> simp [behindInMarks, e1, e2]
/-- a comparison as a value; hm: nomark b, or (for in, not in) by with_unfolding_all rfl -/
theorem pe_cmpR {op : CmpOp} {r : R2} (ho : OpR X (compareOp op) r) (ha : PE X a ta) (hb : PE X b tb) (hm : behindInMarks op b = false) : PE X (.Compare a [op] [b] pos) (tOp r ta tb) := by
  intro pins s σ H Q I h
  exact wpAny_Compare1 (binT ha hb I h fun v u s2 x y H2 I2 rx ry q => ho pins s2 σ H2 x y v u Q I2 rx ry q) hm
/-- a reading of a value as a test -/
def tTest (t : TE) : TT := fun σ H Q => t σ H fun x H' => ∃ k, x = .bl k ∧ Q k H'
theorem pt_cmpR {op : CmpOp} {r : R2} (ho : OpR X (compareOp op) r) (ha : PE X a ta) (hb : PE X b tb) (hm : behindInMarks op b = false) : PT X (.Compare a [op] [b] pos) (tTest (tOp r ta tb)) := by
  intro pins s σ H Q I h
  refine wpAny_isTrue_Compare1 (thn (ha pins s σ H _ I h) fun v s1 ⟨x, H1, I1, r1, q1⟩ => thn (hb pins s1 σ H1 _ I1 q1) fun u s2 ⟨y, H2, I2, r2, q2⟩ =>
    thn (ho pins s2 σ H2 x y v u _ I2 r1 r2 q2) fun c s3 ⟨z, H3, I3, r3, k, e, q3⟩ => ?_) hm
  subst e
  cases r3
  exact wpAny_truthy_bool ⟨H3, I3, q3⟩
/-! ### truth -/
theorem line63 : (sizeLine : Nat) < 2 ^ 63 := by rw [sizeLine_eq]; decide
/-! ### strs and bytes -/
theorem op_add_str : OpR X (binaryOp .Add) (fun x y H Q => ∃ i j, x = .str i ∧ y = .str j ∧ i.length + j.length ≤ sizeLine ∧ Q (.str (i ++ j)) H) := by
  intro pins s σ H x y v u Q I rx ry h
  obtain ⟨i, j, rfl, rfl, hz, q⟩ := h
  obtain ⟨t, rfl⟩ := rx
  obtain ⟨t', rfl⟩ := ry
  exact add_str (fun t' tk => ⟨.str (i ++ j), H, I.tok _, ⟨_, rfl⟩, q⟩) hz
/-! ### scalar builtins, by CallR -/
theorem vals1 {x : V} {us : List Value} (r : Vals [x] us) : ∃ u, us = [u] ∧ RelV x u := by
  cases r with
  | cons r1 r2 => cases r2; exact ⟨_, rfl, r1⟩
theorem vals2 {x y : V} {us : List Value} (r : Vals [x, y] us) : ∃ u w', us = [u, w'] ∧ RelV x u ∧ RelV y w' := by
  cases r with
  | cons r1 r2 =>
    cases r2 with
    | cons r3 r4 => cases r4; exact ⟨_, _, rfl, r1, r3⟩
theorem call_abs : CallR X (.builtin "abs") (fun xs H Q => ∃ i, xs = [.int i] ∧ Q (.int (if i < 0 then -i else i)) H) := by
  intro pins s σ H xs us Q I r h
  obtain ⟨i, rfl, q⟩ := h
  obtain ⟨u, rfl, t, rfl⟩ := vals1 r
  exact call_abs_int fun u tk => ⟨.int (if i < 0 then -i else i), H, I.tok _, ⟨_, rfl⟩, q⟩
theorem call_max2 (hc : X.calm = true) : CallR X (.builtin "max") (fun xs H Q => ∃ i j, xs = [.int i, .int j] ∧ Q (.int (if j > i then j else i)) H) := by
  intro pins s σ H xs us Q I r h
  obtain ⟨i, j, rfl, q⟩ := h
  obtain ⟨u, w', rfl, ⟨t, rfl⟩, ⟨t', rfl⟩⟩ := vals2 r
  refine max_two_ints (I.ok.hd hc) fun h' tk k => ⟨_, H, I.kept k, ?_, q⟩
  by_cases hj : j > i
  · rw [if_pos hj, if_pos hj]; exact ⟨_, rfl⟩
  · rw [if_neg hj, if_neg hj]; exact ⟨_, rfl⟩
end
end L2

namespace L2
open PySem PySem.Spec PyProof.Rows

/-! ### an instance, its attributes a map -/
structure ObjM (h : Heap) (x dx C : Addr) (mA : Str → Option Value) : Prop where
  obj : h.get? x = some (PySem.W.instObj C dx)
  ns : h.Ns1 dx mA
  ne : dx ≠ x

section
variable {prog : Program} {w : World} {A : Around} {E : Value → Shared → Prop} {s : Shared} {K : PySem.W.Frag} {x dx C f : Addr} {mA : Str → Option Value} {name : Str} {v : Value}

end

/-! ### the attributes as a list of pairs -/
section
variable {P : Program} {w : World} {H H' : Hp} {h h' : Heap} {a C dx : Addr} {fs fs' : List (Str × V)}
end

/-! ### what of the text a class must have -/
structure Cls (K : PySem.W.Frag) (C : Addr) : Prop where
  pg : PySem.W.plainGet K C Str.empty = true
  hd : PySem.W.hasDictIn K C = true
  po : PySem.W.plainOver K C = true
  sa : PySem.W.findIn K (.ref C) "__setattr__" = some (some (.builtin "object.__setattr__"))
theorem Cls.get {K : PySem.W.Frag} {C : Addr} (c : Cls K C) (f : Str) : PySem.W.plainGet K C f = true := c.pg
/-- a constant of the class -/
structure Con (K : PySem.W.Frag) (C : Addr) (f : Str) (v : V) (u : Value) : Prop where
  at_ : PySem.W.findIn K (.ref C) f = some (some u)
  rel : RelV v u
  get : PySem.W.specialIn K u "__get__" = some none
  cp : PySem.W.copiedNames.contains f = false
/-- a method: a plain def of the class or of one above it -/
structure Meth (K : PySem.W.Frag) (C : Addr) (m : Str) (f : Addr) : Prop where
  at_ : PySem.W.findIn K (.ref C) m = some (some (.ref f))
  fn : PySem.W.isFn K (.ref f) = true
  kp : PySem.W.keepIn K (.ref f) = true

section
variable {X : Cx} {pins : List (Addr × Obj)} {σ : St} {H : Hp} {s : Shared} {a C dx : Addr} {fs : List (Str × V)} {f : Str} {v : V} {A : Around} {E : Value → Shared → Prop}

/-- a new instance, tracked, without attributes -/
theorem Inv.made (I : Inv X pins σ H s) : Inv X pins σ (upd (upd H s.heap.objs.size (.own (s.heap.objs.size + 1))) (s.heap.objs.size + 1) (.ins C s.heap.objs.size []))
    { s with heap := (s.heap.push PySem.W.emptyDict).push (PySem.W.instObj C s.heap.objs.size) } := by
  have e1 : (s.heap.push PySem.W.emptyDict).get? s.heap.objs.size = some PySem.W.emptyDict := Heap.get?_push_size s.heap rfl
  have e2 : ((s.heap.push PySem.W.emptyDict).push (PySem.W.instObj C s.heap.objs.size)).get? (s.heap.objs.size + 1) = some (PySem.W.instObj C s.heap.objs.size) := by
    have := Heap.get?_push_size (s.heap.push PySem.W.emptyDict) (o := PySem.W.instObj C s.heap.objs.size) rfl
    rwa [Heap.size_push] at this
  have e3 : (s.heap.push PySem.W.emptyDict).Ns s.heap.objs.size (fun _ => none) := ⟨PySem.W.emptyDict, #[], _, e1, rfl, (fun e he => absurd he (by simp)), fun _ => rfl⟩
  have I1 := I.laid (a := s.heap.objs.size) (o := .own (s.heap.objs.size + 1)) (h' := s.heap.push PySem.W.emptyDict) (t' := s.toks) (fun b u q => Heap.get?_push_of_some _ q) (Nat.le_refl _) ⟨_, e1⟩
  refine I1.laid (a := s.heap.objs.size + 1) (o := .ins C s.heap.objs.size []) (t' := s.toks) (fun b u q => Heap.get?_push_of_some _ q) (Nat.le_of_eq (Heap.size_push _ _)) ?_
  have ne : s.heap.objs.size ≠ s.heap.objs.size + 1 := Nat.ne_of_lt (Nat.lt_succ_self _)
  refine ⟨by rw [upd_ne ne, upd_same], Nat.zero_le _, ne, e2, fun _ => none, (Heap.Ns1.of_empty e3).at fun o q => Heap.get?_push_of_some _ q, fun _ => True.intro, fun y hy => absurd rfl hy⟩

end

/-! ### readings and rules -/
section
variable {X : Cx} {o e value : Expr} {f : Str} {pos pos' tpos : Pos} {ta tv : TE}
end

/-! ### isinstance -/
section
variable {X : Cx} {pins : List (Addr × Obj)} {σ : St} {H : Hp} {s : Shared} {A : Around} {E : Value → Shared → Prop} {Q : Value → Shared → Prop} {c : Value} {b : Bool}
/-- the type of a value, as the fragment's deciders take it; for an instance its class -/
inductive TyOf (K : PySem.W.Frag) (H : Hp) : V → Value → Prop where
  | non : TyOf K H .non (.type "NoneType")
  | bl (x : Bool) : TyOf K H (.bl x) (.type "bool")
  | int (i : Int) : TyOf K H (.int i) (.type "int")
  | str (x : Str) : TyOf K H (.str x) (.type "str")
  | flt (x : UInt64) : TyOf K H (.flt x) (.type "float")
  | lst {a : Addr} {xs : List V} (e : H a = some (.lst xs)) : TyOf K H (.ref a) (.type "list")
  | frz {a : Addr} {o : Obj} {xs : List V} (e : H a = some (.frz o (.lst xs))) : TyOf K H (.ref a) (.type "list")
  | tup {a : Addr} {xs : List V} (e : H a = some (.tup xs)) : TyOf K H (.ref a) (.type "tuple")
  | dK {a : Addr} {kvs : List (Key × V)} (e : H a = some (.dK kvs)) : TyOf K H (.ref a) (.type "dict")
  | dT {a : Addr} {kvs : List (List Key × V)} (e : H a = some (.dT kvs)) : TyOf K H (.ref a) (.type "dict")
  | ins {a C dx : Addr} {fs : List (Str × V)} (e : H a = some (.ins C dx fs)) (cl : Cls K C) (ha : PySem.W.findIn K (.ref C) "__class__" = some (some (.builtin "object.__class__")))
      (hn : PySem.W.specialIn K (.builtin "object.__class__") "__get__" = some (some (.builtin "getset_descriptor.__get__"))) (htk : PySem.W.takesIn K (.builtin "object.__class__") = some true)
      (hm : PySem.W.mroIn K C (.type "object") = some true) : TyOf K H (.ref a) (.ref C)
end
end L2

namespace L2
open PySem PySem.Spec PyProof.Rows

/-! ### room -/
structure Room (k : Nat) (A : Around) : Prop where
  hd : A.handled = none
  dp : A.depth + 3 * k + 5 < recursionLimit
  un : A.units + 16 * k + 200 < cLine
theorem Room.mono {j k : Nat} {A : Around} (r : Room k A) (h : j ≤ k) : Room j A := ⟨r.hd, by have := r.dp; omega, by have := r.un; omega⟩
theorem Room.deeper {k : Nat} {A : Around} (r : Room (k + 1) A) (env : Env) : Room k (A.deeper env) :=
  ⟨r.hd, by have := r.dp; show A.depth + 1 + 3 * k + 5 < _; omega, by have := r.un; show A.units + 3 + 16 * k + 200 < _; omega⟩
theorem Room.in1 {k : Nat} {A : Around} (r : Room (k + 1) A) : Room k A.in1 :=
  ⟨r.hd, by have := r.dp; show A.depth + 3 * k + 5 < _; omega, by have := r.un; show A.units + 1 + 16 * k + 200 < _; omega⟩
theorem make_depth {A : Around} {C : Addr} {us : List Value} {kw : List (Str × Value)} : (A.under (.builtin "type.__call__" ⟨.ref C :: us, kw⟩)).depth = A.depth + 1 := by
  first | rfl | simp [Around.under, Code.weight, Code.isCreation, Code.isGuard, Code.isCaller, Code.frames, Code.isFrame, guardIds]
theorem make_units {A : Around} {C : Addr} {us : List Value} {kw : List (Str × Value)} : (A.under (.builtin "type.__call__" ⟨.ref C :: us, kw⟩)).units = A.units + 1 := by
  first | rfl | simp [Around.under, Code.cUnits, Code.frames, Code.isFrame]
theorem Room.make {k : Nat} {A : Around} (r : Room (k + 1) A) (C : Addr) (us : List Value) (kw : List (Str × Value)) : Room k (A.under (.builtin "type.__call__" ⟨.ref C :: us, kw⟩)) :=
  ⟨r.hd, by have := r.dp; rw [make_depth]; omega, by have := r.un; rw [make_units]; omega⟩
theorem Room.depth {k : Nat} {A : Around} (r : Room k A) : A.depth < recursionLimit := by have := r.dp; omega
theorem Room.units {k : Nat} {A : Around} (r : Room k A) : A.units + 64 < cLine := by have := r.un; omega
/-! ### argument lists and displays -/
def tNil : TA := fun _ H Q => Q [] H
def tCons (ta : TE) (tr : TA) : TA := fun σ H Q => ta σ H fun x H1 => tr σ H1 fun xs H2 => Q (x :: xs) H2
section
variable {X : Cx} {e : Expr} {es : List Expr} {te : TE} {t : TA} {pos : Pos}
theorem pa_nil : PA X [] tNil := fun _ _ _ _ H Q I h => Calls.spliced_nil ⟨[], H, I, .nil, h⟩
theorem pa_cons (ha : PE X e te) (hr : PA X es t) (hs : starEach (e :: es) X.env = (false, eval e X.env) :: starEach es X.env := by rfl) : PA X (e :: es) (tCons te t) := by
  intro pos pins s σ H Q I h
  rw [hs]
  show wpAny _ _ (spliced ((false, eval e X.env) :: backTo pos (starEach es X.env))) _ _ s
  refine Calls.spliced_cons (thn (ha pins s σ H _ I h) fun u s1 ⟨x, H1, I1, r1, q1⟩ => ?_)
  exact thn (hr pos pins s1 σ H1 _ I1 q1) fun us s2 ⟨xs, H2, I2, r2, q2⟩ => ⟨x :: xs, H2, I2, .cons r1 r2, q2⟩

/-- a tuple, a list of written items -/
def tTup (t : TA) : TE := fun σ H Q => t σ H fun xs H1 => xs.length ≤ sizeLine ∧ ∀ p, H1 p = none → Q (.ref p) (upd H1 p (.tup xs))
def tLst (t : TA) : TE := fun σ H Q => t σ H fun xs H1 => xs.length ≤ sizeLine ∧ ∀ p, H1 p = none → Q (.ref p) (upd H1 p (.lst xs))
theorem pe_tup {x1} (h : PA X es t) : PE X (.Tuple es x1 pos) (tTup t) := by
  intro pins s σ H Q I hq
  refine wpAny_Tuple_spliced (thn (h pos pins s σ H _ I hq) fun us s1 ⟨xs, H1, I1, r, z, q⟩ => ⟨by rw [← r.length]; exact z, ?_⟩)
  have hf : H1 s1.heap.objs.size = none := I1.hok.fresh (Nat.le_refl _)
  refine ⟨.ref s1.heap.objs.size, upd H1 s1.heap.objs.size (.tup xs), I1.laid (t' := s1.toks) (fun b u e => Heap.get?_push_of_some _ e) (Nat.le_refl _) ?_, rfl, q _ hf⟩
  exact ⟨z, us, r, ⟨_, Heap.get?_push_size _ rfl, rfl, _, rfl⟩⟩
theorem pe_lst (h : PA X es t) : PE X (.List es pos) (tLst t) := by
  intro pins s σ H Q I hq
  refine wpAny_List_spliced (thn (h pos pins s σ H _ I hq) fun us s1 ⟨xs, H1, I1, r, z, q⟩ => ⟨by rw [← r.length]; exact z, ?_⟩)
  have hf : H1 s1.heap.objs.size = none := I1.hok.fresh (Nat.le_refl _)
  refine ⟨.ref s1.heap.objs.size, upd H1 s1.heap.objs.size (.lst xs), I1.laid (t' := s1.toks) (fun b u e => Heap.get?_push_of_some _ e) (Nat.le_refl _) ?_, rfl, q _ hf⟩
  exact ⟨z, us, 0, r, Heap.get?_push_size _ rfl⟩
end

/-! ### what a def promises -/
/-- a def's promise: the bound arguments in the parameters' order, the heap, the wanted end, the wanted exception -/
abbrev Sp := List V → Hp → VK → XK → Prop
/-- how an exception lies behind a call (file 08 gives it): the callers' frames, abstract heap and state ahead of the call, the wish, the exception, the state -/
abbrev CXT := List Env → Hp → Shared → XK → Value → Shared → Prop

/-- the state at a call -/
structure Env0 (P : Program) (w : World) (K : PySem.W.Frag) (mg : Str → Option Value) (base : Heap) (A : Around) (outer : List Env) (s : Shared) (H : Hp) : Prop where
  frames : A.frames = some outer
  mod : Mod K mg base
  bs : ∀ b o, base.get? b = some o → s.heap.get? b = some o ∧ H b = none
  bsz : base.objs.size ≤ s.heap.objs.size
  funs : s.heap.FunFrames base outer
  frf : ∀ b ∈ frs outer, H b = none
  hok : HOk P w H s.heap
  bare : AllBare s.gens
/-- a call's end -/
def CE (outer : List Env) (P : Program) (w : World) (H : Hp) (s : Shared) (Q : VK) (u : Value) (s' : Shared) : Prop :=
  ∃ v H', s'.os = s.os ∧ AllBare s'.gens ∧ Un (frs outer) [] H H' s.heap s'.heap ∧ HOk P w H' s'.heap ∧ RelV v u ∧ Q v H'
def CR (CX : CXT) (outer : List Env) (P : Program) (w : World) (H : Hp) (s : Shared) (Q : VK) (E : XK) (r : Result) (s' : Shared) : Prop :=
  match r with
  | .ok (.ret u) => CE outer P w H s Q u s'
  | .ok _ => False
  | .error e => CX outer H s E e s'
structure FnOk (P : Program) (w : World) (K : PySem.W.Frag) (mg : Str → Option Value) (base : Heap) (CX : CXT) (k : Nat) (f : Addr) (fd : FuncData) (ps : List Str) (sp : Sp) : Prop where
  len : ∀ vs H Q E, sp vs H Q E → vs.length = ps.length
  run : ∀ (A : Around) (outer : List Env) (s : Shared) (H : Hp) (args : Args) (us : List Value) (vs : List V) (Q : VK) (E : XK), Room k A → Env0 P w K mg base A outer s H → BindsTo s fd args (ps.zip us) → Vals vs us → sp vs H Q E →
    codeAny (model P w) A (.call (.ref f) args) (CR CX outer P w H s Q E) s
theorem FnOk.mono {P : Program} {w : World} {K : PySem.W.Frag} {mg : Str → Option Value} {base : Heap} {CX : CXT} {j k : Nat} {f : Addr} {fd : FuncData} {ps : List Str} {sp : Sp} (F : FnOk P w K mg base CX j f fd ps sp) (h : j ≤ k) :
    FnOk P w K mg base CX k f fd ps sp := ⟨F.len, fun A outer s H args us vs Q E hr => F.run A outer s H args us vs Q E (hr.mono h)⟩
/-- a weaker promise -/
theorem FnOk.imp {P : Program} {w : World} {K : PySem.W.Frag} {mg : Str → Option Value} {base : Heap} {CX : CXT} {k : Nat} {f : Addr} {fd : FuncData} {ps : List Str} {sp sp' : Sp} (F : FnOk P w K mg base CX k f fd ps sp)
    (h : ∀ vs H Q E, sp' vs H Q E → sp vs H Q E) : FnOk P w K mg base CX k f fd ps sp' :=
  ⟨fun vs H Q E q => F.len vs H Q E (h _ _ _ _ q), fun A outer s H args us vs Q E hr he hb hv hs => F.run A outer s H args us vs Q E hr he hb hv (h _ _ _ _ hs)⟩

theorem Env0.make {P : Program} {w : World} {K : PySem.W.Frag} {mg : Str → Option Value} {base : Heap} {A : Around} {outer : List Env} {s : Shared} {H : Hp} (e : Env0 P w K mg base A outer s H) (C : Addr) (us : List Value) (kw : List (Str × Value)) :
    Env0 P w K mg base (A.under (.builtin "type.__call__" ⟨.ref C :: us, kw⟩)) outer s H := ⟨by first | exact e.frames | (simpa [Around.under, Code.envs, Code.isFrame, pushEnvs] using e.frames), e.mod, e.bs, e.bsz, e.funs, e.frf, e.hok, e.bare⟩
theorem Env0.in1 {P : Program} {w : World} {K : PySem.W.Frag} {mg : Str → Option Value} {base : Heap} {A : Around} {outer : List Env} {s : Shared} {H : Hp} (e : Env0 P w K mg base A outer s H) :
    Env0 P w K mg base A.in1 outer s H := ⟨e.frames, e.mod, e.bs, e.bsz, e.funs, e.frf, e.hok, e.bare⟩

section
variable {X : Cx} {pins : List (Addr × Obj)} {σ : St} {H : Hp} {s s' : Shared}
/-- from a body: what a callee wants -/
theorem Inv.env0 (I : Inv X pins σ H s) : Env0 X.prog X.w X.K X.mg X.base X.A X.stack s H :=
  ⟨I.ok.frames, I.ok.mod, I.bs, Nat.le_trans I.ok.bsz I.sz, I.stack, I.stkFree, I.hok, I.bare⟩
/-- behind a call -/
theorem Inv.after {Q : VK} {u : Value} (I : Inv X pins σ H s) (h : CE X.stack X.prog X.w H s Q u s') : EP X pins σ Q u s' := by
  obtain ⟨v, H', os, bare, un, hok, r, q⟩ := h
  obtain ⟨hh, g, d, t, os'⟩ := s'
  obtain rfl : os' = s.os := os
  exact ⟨v, H', I.call (h' := hh) (g' := g) (d' := d) (t' := t) (ch := []) un hok bare (fun b z => absurd z (by simp)), r, q⟩
end

/-! ### calls -/
/-- f(..): the written arguments, then the defaults dvs; E: what is wanted of an exception -/
def tCall (sp : Sp) (dvs : List V) (E : XK) (t : TA) : TE := fun σ H Q => t σ H fun vs H1 => sp (vs ++ dvs) H1 Q E
/-- how the parameters are bound: us the positional arguments, kw the keywords' values by name, ds the defaults that fill up -/
def Binds (K : PySem.W.Frag) (fd : FuncData) (ps : List Str) (ds : List Value) : Prop :=
  ∀ (s : Shared) (us : List Value), K.In s.heap → (us ++ ds).length = ps.length → BindsTo s fd ⟨us, []⟩ (ps.zip (us ++ ds))
/-- every parameter is given -/
theorem Binds.all {K : PySem.W.Frag} {fd : FuncData} {ps : List Str} (h : ∀ us : List Value, us.length = ps.length → bindArgs fd ⟨us, []⟩ = pure (ps.zip us)) : Binds K fd ps [] := fun s us _ hl => by
  rw [List.append_nil] at hl ⊢
  exact .of_eq (h us hl)

/-- an exception of a callee reaches what this body wants of exceptions -/
def Passes (CX : CXT) (X : Cx) (E : XK) : Prop := ∀ (pins : List (Addr × Obj)) (σ : St) (H : Hp) (s : Shared) (e : Value) (s' : Shared), Inv X pins σ H s → CX X.stack H s E e s' → X.xe e s'

section
variable {X : Cx} {CX : CXT} {k : Nat} {f C : Addr} {fd : FuncData} {ps : List Str} {sp : Sp} {dvs : List V} {ds : List Value} {E : XK} {x m : Str} {p pos apos : Pos} {e o : Expr} {es : List Expr} {ta : TE} {t : TA}

/-- the callee runs -/
theorem run_fn {pins : List (Addr × Obj)} {σ : St} {H : Hp} {s : Shared} {Q : VK} {us : List Value} {vs : List V} (F : FnOk X.prog X.w X.K X.mg X.base CX k f fd ps sp) (hr : Room k X.A) (hb : Binds X.K fd ps ds) (hd : Vals dvs ds) (hx : Passes CX X E)
    (I : Inv X pins σ H s) (r : Vals vs us) (h : sp (vs ++ dvs) H Q E) : wpAny (model X.prog X.w) X.A (call (.ref f) us) (EP X pins σ Q) X.xe s := by
  have r2 : Vals (vs ++ dvs) (us ++ ds) := r.append hd
  have hl : (us ++ ds).length = ps.length := by rw [← r2.length]; exact F.len _ _ _ _ h
  refine wpAny_call (codeAny_mono (F.run X.A X.stack s H ⟨us, []⟩ (us ++ ds) (vs ++ dvs) Q E hr I.env0 (hb s us I.kIn hl) r2 h) fun r s' hq => ?_)
  cases r with
  | error e => exact hx pins σ H s e s' I hq
  | ok fl =>
    cases fl with
    | ret u => exact I.after hq
    | next => exact False.elim hq
    | brk => exact False.elim hq
    | cont => exact False.elim hq

theorem pe_call (F : FnOk X.prog X.w X.K X.mg X.base CX k f fd ps sp) (hr : Room k X.A) (hg : Gl X x) (hm : X.mg x = some (.ref f)) (hk : PySem.W.keepIn X.K (.ref f) = true) (hb : Binds X.K fd ps ds) (hd : Vals dvs ds) (hx : Passes CX X E)
    (ha : PA X (e :: es) t) (hdb : (x == ("__debug__" : Str)) = false := by decide) (he : starEach (e :: es) X.env = (false, eval e X.env) :: starEach es X.env := by rfl) (hpl : (backTo pos (starEach es X.env)).any (·.1) = false := by rfl) :
    PE X (.Call (.Name x p) (e :: es) [] pos) (tCall sp dvs E t) := by
  intro pins s σ H Q I h
  refine wpAny_Call_Name_kw (ld_glob I hg hm ?_ hdb)
  refine PySem.W.callWith_K (h₀ := X.base) I.ok.mod.kin hk (thn (ha pos pins s σ H _ I h) fun us s1 ⟨vs, H1, I1, r, q⟩ => ⟨I1.kIn, ?_⟩) he hpl
  exact run_fn F hr hb hd hx I1 r q
/-- what a class must have to be made -/
structure Mk (K : PySem.W.Frag) (C f : Addr) : Prop where
  makes : PySem.W.makesIn K C = true
  init : PySem.W.findIn K (.ref C) "__init__" = some (some (.ref f))
  fn : PySem.W.isFn K (.ref f) = true
  kp : PySem.W.keepIn K (.ref C) = true

end

/-! ### keywords -/
section
variable {X : Cx} {CX : CXT} {k : Nat} {f C : Addr} {fd : FuncData} {ps ks : List Str} {sp : Sp} {E : XK} {x m : Str} {p pos apos kpos : Pos} {e o : Expr} {es : List Expr} {kws : List Keyword} {te ta : TE} {t tk : TA} {nm : Option Str}
/-- how a call with keywords binds: g puts the positional values us and the keywords' values ws (names ks) in the parameters' order, defaults among them -/
structure KBinds (K : PySem.W.Frag) (fd : FuncData) (ps ks : List Str) (g : List Value → List Value → List Value) (gV : List V → List V → List V) : Prop where
  to : ∀ (s : Shared) (us ws : List Value), K.In s.heap → (g us ws).length = ps.length → BindsTo s fd ⟨us, ks.zip ws⟩ (ps.zip (g us ws))
  rel : ∀ {vs : List V} {us : List Value} {zs : List V} {ws : List Value}, Vals vs us → Vals zs ws → Vals (gV vs zs) (g us ws)
variable {g : List Value → List Value → List Value} {gV : List V → List V → List V}
end

/-! ### a def's body keeps its promise -/
/-- names: the parameters first -/
structure FnScope (N P : List Str) (sc : Scope) : Prop where
  kind : sc.kind = .function
  co : sc.isCoroutine = false
  gen : sc.isGenerator = false
  nd : N.Nodup
  pre : N.take P.length = P
  par : ∀ x ∈ P, sc.names.lookup x = some .local ∨ sc.names.lookup x = some .cell
  nofree : ∀ y ∈ sc.names, y.2 ≠ .free

theorem bindL_out {kindOf : Str → Option NameKind} {x : Str} : ∀ {binds : List (Str × Value)} {m : Str → Option Value}, (∀ v, (x, v) ∉ binds) → bindL kindOf binds m x = m x
  | [], _, _ => rfl
  | (n, v) :: r, m, h => by
    unfold bindL
    rw [bindL_out fun w hw => h w (List.mem_cons_of_mem _ hw)]
    split
    · have : x ≠ n := by rintro rfl; exact h v List.mem_cons_self
      simp [this]
    · rfl
theorem bindC_out {kindOf : Str → Option NameKind} {x : Str} : ∀ {binds : List (Str × Value)} {m : Str → Option Value}, (∀ v, (x, v) ∉ binds) → bindC kindOf binds m x = m x
  | [], _, _ => rfl
  | (n, v) :: r, m, h => by
    unfold bindC
    rw [bindC_out fun w hw => h w (List.mem_cons_of_mem _ hw)]
    split
    · rfl
    · have : x ≠ n := by rintro rfl; exact h v List.mem_cons_self
      simp [this]
theorem bindL_get {kindOf : Str → Option NameKind} {x : Str} {v : Value} : ∀ {P : List Str} {vs : List Value} {i : Nat} {m : Str → Option Value}, P.Nodup → P[i]? = some x → vs[i]? = some v → kindOf x = some .local →
    bindL kindOf (P.zip vs) m x = some v
  | [], _, _, _, _, h, _, _ => by simp at h
  | _ :: _, [], _, _, _, _, h, _ => by simp at h
  | p :: P, w :: vs, 0, m, nd, h1, h2, hk => by
    simp at h1 h2; subst h1; subst h2
    show bindL kindOf ((p, w) :: P.zip vs) m p = _
    unfold bindL
    rw [bindL_out fun v hv => (List.nodup_cons.mp nd).1 (List.of_mem_zip hv).1, if_pos hk]
    simp
  | p :: P, w :: vs, i + 1, m, nd, h1, h2, hk => by
    show bindL kindOf ((p, w) :: P.zip vs) m x = _
    unfold bindL
    exact bindL_get (i := i) (List.nodup_cons.mp nd).2 (by simpa using h1) (by simpa using h2) hk
theorem bindC_get {kindOf : Str → Option NameKind} {x : Str} {v : Value} : ∀ {P : List Str} {vs : List Value} {i : Nat} {m : Str → Option Value}, P.Nodup → P[i]? = some x → vs[i]? = some v → kindOf x ≠ some .local →
    bindC kindOf (P.zip vs) m x = some v
  | [], _, _, _, _, h, _, _ => by simp at h
  | _ :: _, [], _, _, _, _, h, _ => by simp at h
  | p :: P, w :: vs, 0, m, nd, h1, h2, hk => by
    simp at h1 h2; subst h1; subst h2
    show bindC kindOf ((p, w) :: P.zip vs) m p = _
    unfold bindC
    rw [bindC_out fun v hv => (List.nodup_cons.mp nd).1 (List.of_mem_zip hv).1, if_neg hk]
    simp
  | p :: P, w :: vs, i + 1, m, nd, h1, h2, hk => by
    show bindC kindOf ((p, w) :: P.zip vs) m x = _
    unfold bindC
    exact bindC_get (i := i) (List.nodup_cons.mp nd).2 (by simpa using h1) (by simpa using h2) hk

/-- the names' values at the entry -/
def start (N : List Str) (vs : List V) : St := vs.map some ++ List.replicate (N.length - vs.length) none

/-- the context of a def's body, at its entry; an exception leaves the frame, then lies as CX says -/
def cxOf (CX : CXT) (P : Program) (w : World) (K : PySem.W.Frag) (mg : Str → Option Value) (base : Heap) (N : List Str) (qual : Str) (scope : Scope) (f : Addr) (cd : Value) (A : Around) (outer : List Env) (s : Shared) (H : Hp) (E : XK) : Cx where
  prog := P
  w := w
  K := K
  mg := mg
  base := base
  A := A.deeper (envOfC qual scope s.heap.objs.size f cd)
  N := N
  s₀ := s
  H₀ := H
  env := envOfC qual scope s.heap.objs.size f cd
  outer := outer
  stack := envOfC qual scope s.heap.objs.size f cd :: outer
  ex := []
  calm := true
  fn := fun _ => true
  pn := []
  xe := fun e s' => wpAny (model P w) (A.deeper (envOfC qual scope s.heap.objs.size f cd)) (leaving (envOfC qual scope s.heap.objs.size f cd) e) (fun _ s'' => CX outer H s E e s'') (fun e' s'' => CX outer H s E e' s'') s'

theorem cell_has {sc : Scope} {n : Nat} {x : Str} (h : sc.names.lookup x = some .cell) : ∃ c, (cellsFrom n sc.names []).lookup x = some c := by
  have q := PySem.W.cellsFrom_some sc.names n [] (.inl h)
  exact Option.isSome_iff_exists.mp q

theorem inv_start {CX : CXT} {P : Program} {w : World} {K : PySem.W.Frag} {mg : Str → Option Value} {base : Heap} {N ps : List Str} {qual : Str} {scope : Scope} {f : Addr} {cd : Value} {A : Around} {outer : List Env} {s s1 : Shared} {H : Hp} {E : XK} {us : List Value} {vs : List V}
    (S : FnScope N ps scope) (hd : A.handled = none) (e0 : Env0 P w K mg base A outer s H) (hl : vs.length = ps.length) (r : Vals vs us)
    (x : InCallC s s.heap.objs.size (bindL (envOfC qual scope s.heap.objs.size f cd).kindOf (ps.zip us) fun _ => none) (cellsFrom (s.heap.objs.size + 1) scope.names []) (bindC (envOfC qual scope s.heap.objs.size f cd).kindOf (ps.zip us) fun _ => none) s1) :
    Inv (cxOf CX P w K mg base N qual scope f cd A outer s H E) [] (start N vs) H s1 := by
  have hpl : ps.length ≤ N.length := by have := congrArg List.length S.pre; rw [List.length_take] at this; omega
  obtain ⟨h1, tk, rfl, hk⟩ := x.done
  have noA : ∀ b : Addr, b ∉ (cxOf CX P w K mg base N qual scope f cd A outer s H E).ex := fun b z => absurd (show b ∈ ([] : List Addr) from z) (by simp)
  refine ⟨⟨e0.mod, S.kind, rfl, rfl, Nat.le_refl _, fun y z c h1 h2 => ?_, fun y hy => ?_, fun y c _ h => ?_, fun _ => hd, Around.frames_deeper e0.frames, .inr ⟨rfl, rfl⟩, fun b z => absurd z (noA b), e0.bs, e0.bsz, fun b _ _ => noA b, fun b z => absurd z (noA b), e0.funs, e0.frf⟩,
    rfl, e0.bare, Un.kept hk, ⟨_, x.toInCall.ns, fun i y v h1 h2 h3 => ?_⟩, fun y c h => ⟨_, x.cell y c h⟩, e0.hok.fresh (Nat.le_refl _), fun y c h => ?_, fun p hp => absurd (show p ∈ ([] : List (Addr × Obj)) from hp) (by simp), e0.hok.kept hk, ?_⟩
  · exact name_of_addr x.apart (PySem.mem_of_lookup h1) (PySem.mem_of_lookup h2)
  · have hy : scope.names.lookup y = some .cell ∨ scope.names.lookup y = some .free := hy
    rcases hy with hy | hy
    · exact cell_has hy
    · exact absurd rfl (S.nofree _ (PySem.mem_of_lookup hy))
  · exact Nat.le_of_lt (x.above y c (PySem.mem_of_lookup h))
  · have hi : i < vs.length := by
      unfold start at h2
      by_cases hi : i < vs.length
      · exact hi
      · rw [List.getElem?_append_right (by simpa using hi)] at h2
        rw [List.getElem?_replicate] at h2
        split at h2 <;> cases h2
    have ha : vs[i]? = some v := by
      unfold start at h2
      rw [List.getElem?_append_left (by simpa using hi), List.getElem?_map] at h2
      cases e : vs[i]? with
      | none => rw [e] at h2; cases h2
      | some a => rw [e] at h2; cases h2; rfl
    obtain ⟨u, hu, rv⟩ := r.get ha
    have hp : ps[i]? = some y := by
      rw [← S.pre, List.getElem?_take_of_lt (by omega)]; exact h1
    have ndP : ps.Nodup := by rw [← S.pre]; exact S.nd.sublist (List.take_sublist _ _)
    refine ⟨u, rv, ?_⟩
    rcases S.par y (List.mem_of_getElem? hp) with k | k
    · exact .inl ⟨k, bindL_get ndP hp hu k⟩
    · obtain ⟨c, e⟩ := cell_has (n := s.heap.objs.size + 1) k
      refine .inr ⟨.inl k, c, e, ?_⟩
      have q := x.cell y c e
      rw [bindC_get ndP hp hu (by show scope.names.lookup y ≠ _; rw [k]; decide)] at q
      exact q
  · exact e0.hok.fresh (Nat.le_of_lt (x.above y c (PySem.mem_of_lookup h)))
  · unfold start
    show _ = N.length
    rw [List.length_append, List.length_map, List.length_replicate]
    omega

/-- THE RULE: a def (or a method) of the text, by its body. The body's reading t is chosen for each entry; it is run at the parameters' values -/
theorem fn_of {CX : CXT} {P : Program} {w : World} {K : PySem.W.Frag} {mg : Str → Option Value} {base : Heap} {k : Nat} {f : Addr} {name qual : Str} {params : Arguments} {body : List Stmt} {scope : Scope} {dV kV doc pm cdv ct oc : Value} {an od : Option Addr}
    {osl : Array (Option Value)} {N ps : List Str} {sp : Sp} (lk : K.lookup f = some ⟨oc, od, .func (PySem.W.fnOf name qual params body scope dV kV doc pm an cdv ct), osl⟩) (hcd : PySem.W.codeIn K cdv qual = true) (S : FnScope N ps scope)
    (len : ∀ vs H Q E, sp vs H Q E → vs.length = ps.length)
    (hbody : ∀ (A : Around) (outer : List Env) (s : Shared) (H : Hp) (vs : List V) (Q : VK) (E : XK), Room k (A.deeper (envOfC qual scope s.heap.objs.size f cdv)) → sp vs H Q E →
      ∃ t, PSs (cxOf CX P w K mg base N qual scope f cdv A outer s H E) body t ∧ t { nx := fun _ H' => Q .non H', rt := Q } (start N vs) H) :
    FnOk P w K mg base CX (k + 1) f (PySem.W.fnOf name qual params body scope dV kV doc pm an cdv ct) ps sp := by
  refine ⟨len, fun A outer s H args us vs Q E hr e0 hb r hsp => ?_⟩
  have hl := len _ _ _ _ hsp
  have KX : K.In s.heap := e0.mod.kin.keeps fun b o e => (e0.bs b o e).1
  have lim : s.heap.NoLimit := e0.mod.nolimit.keeps fun b o e => (e0.bs b o e).1
  have hkind : ∀ y ∈ ps.zip us, scope.names.lookup y.1 = some .local ∨ (scope.names.lookup y.1 = some .cell ∧ ((cellsFrom (s.heap.objs.size + 1) scope.names []).lookup y.1).isSome = true) := fun ⟨n, v⟩ hy => by
    rcases S.par n (List.of_mem_zip hy).1 with q | q
    · exact .inl q
    · exact .inr ⟨q, PySem.W.cellsFrom_some _ _ _ (.inl q)⟩
  refine codeAny_call_function hr.depth (KX _ _ lk) rfl S.co S.gen rfl (PySem.W.codeRec_of KX hcd) (hb _ _ _ _ ?_)
  refine wpAny_newFunctionEnv_cells S.kind hkind fun env he s1 x => ?_
  subst he
  refine ⟨lim.keeps x.toInCall.keep, codeAny_func ?_⟩
  obtain ⟨t, ht, hq⟩ := hbody A outer s H vs Q E (hr.deeper _) hsp
  have I : Inv (cxOf CX P w K mg base N qual scope f cdv A outer s H E) [] (start N vs) H s1 := inv_start S hr.hd e0 hl r x
  refine wpAny_mono (ht [] s1 (start N vs) H _ I hq) (fun fl s' hs => ?_) fun e s' hs => hs
  have fin : ∀ {σ' : St} {H' : Hp} {v : V} {u : Value}, Inv (cxOf CX P w K mg base N qual scope f cdv A outer s H E) [] σ' H' s' → RelV v u → Q v H' → CE outer P w H s Q u s' :=
    fun {σ' H' v u} J rv q => ⟨v, H', J.os, J.bare, J.base, J.hok, rv, q⟩
  cases fl with
  | ret u =>
    obtain ⟨v, σ', H', J, rv, q⟩ := hs
    exact fin J rv q
  | next =>
    obtain ⟨σ', H', J, q⟩ := hs
    exact fin (v := V.non) (u := Value.none) J rfl q
  | brk =>
    obtain ⟨_, _, _, q⟩ := hs
    exact False.elim q
  | cont =>
    obtain ⟨_, _, _, q⟩ := hs
    exact False.elim q
end L2

namespace L2
open PySem PySem.Spec PyProof.Rows
section
variable {X : Cx} {x : Str} {p pos : Pos} {e : Expr} {es : List Expr} {t : TA} {id T : String} {r : List V → Hp → VK → Prop}

def tCB (r : List V → Hp → VK → Prop) (t : TA) : TE := fun σ H Q => t σ H fun vs H1 => r vs H1 Q
/-- f(e, ..), f a built-in function -/
theorem pe_callB (hc : CallR X (.builtin id) r) (hg : Gl X x) (hm : X.mg x = none) (hv : bootBuiltins x = some (.builtin id)) (ha : PA X (e :: es) t) (hn : x ≠ "__name__" := by decide) (hdb : (x == ("__debug__" : Str)) = false := by decide)
    (he : starEach (e :: es) X.env = (false, eval e X.env) :: starEach es X.env := by rfl) (hpl : (backTo pos (starEach es X.env)).any (·.1) = false := by rfl) : PE X (.Call (.Name x p) (e :: es) [] pos) (tCB r t) := by
  intro pins s σ H Q I h
  refine wpAny_Call_Name_kw (ld_blt I hg hm hv ?_ hn hdb)
  exact PyProof.Rows.callWith_builtin1 (thn (ha pos pins s σ H _ I h) fun us s1 ⟨vs, H1, I1, r1, q1⟩ => hc pins s1 σ H1 vs us Q I1 r1 q1) he hpl
/-- T(e, ..), T a built-in type -/
theorem pe_callTy (hc : CallR X (.type T) r) (hg : Gl X x) (hm : X.mg x = none) (hv : bootBuiltins x = some (.type T)) (ha : PA X (e :: es) t) (hn : x ≠ "__name__" := by decide) (hdb : (x == ("__debug__" : Str)) = false := by decide)
    (he : starEach (e :: es) X.env = (false, eval e X.env) :: starEach es X.env := by rfl) (hpl : (backTo pos (starEach es X.env)).any (·.1) = false := by rfl) : PE X (.Call (.Name x p) (e :: es) [] pos) (tCB r t) := by
  intro pins s σ H Q I h
  refine wpAny_Call_Name_kw (ld_blt I hg hm hv ?_ hn hdb)
  exact PyProof.Rows.callWith_type1 (thn (ha pos pins s σ H _ I h) fun us s1 ⟨vs, H1, I1, r1, q1⟩ => hc pins s1 σ H1 vs us Q I1 r1 q1) he hpl
end
end L2

namespace HT
open PySem PyProof.Rows

section
open PySem.SeqAt
open PySem.AutoSeq1 (wpAny_loadPart')
open PySem.MeetsSeq PySem.MeetsSeq2 PySem.MeetsSeq3

end

section
variable {prog : Program} {w : World} {A : Around} {E : Value → Shared → Prop} {s : Shared}

/-! ### t[a:b], not the whole -/
/-- a slice's bound as a place among n (d where it is left out) -/
def sIx (n d : Nat) : Option Int → Nat
  | none => d
  | some v => if v < 0 then (v + (n : Int)).toNat else min v.toNat n
theorem sIx_none (n d : Nat) : sIx n d none = d := rfl
theorem sIx_nat (n d k : Nat) : sIx n d (some (k : Int)) = min k n := by
  show (if (k : Int) < 0 then ((k : Int) + (n : Int)).toNat else min (k : Int).toNat n) = min k n
  rw [if_neg (by omega), Int.toNat_natCast]
end
end HT

namespace L2
open PySem PySem.Spec PyProof.Rows

/-! ### the parts of a slice -/
abbrev TO := St → Hp → (Option Int → Hp → Prop) → Prop
/-- a slice's part (left out, or an int) -/
def PO (X : Cx) (e : Option Expr) (t : TO) : Prop :=
  ∀ (pins : List (Addr × Obj)) (s : Shared) (σ : St) (H : Hp) (Q : Option Int → Hp → Prop), Inv X pins σ H s → t σ H Q →
    wpAny (model X.prog X.w) X.A (evalPart e X.env) (fun u s' => ∃ o H', Inv X pins σ H' s' ∧ IsPart u o ∧ Q o H') X.xe s
def tNoPart : TO := fun _ H Q => Q none H
def tPart (t : TE) : TO := fun σ H Q => t σ H fun x H1 => ∃ i, x = .int i ∧ Q (some i) H1

section
variable {X : Cx} {e : Expr} {te : TE} {lo hi : Option Expr} {tl th : TO} {pos p2 : Pos}

theorem po_none : PO X none tNoPart := by
  intro pins s σ H Q I h
  rw [evalPart_none]
  exact wpAny_pure ⟨none, H, I, .none, h⟩
theorem po_some (h : PE X e te) : PO X (some e) (tPart te) := by
  intro pins s σ H Q I hw
  rw [evalPart_some]
  refine thn (h pins s σ H _ I hw) fun u s1 ⟨x, H1, I1, r1, q1⟩ => ?_
  obtain ⟨i, rfl, q⟩ := q1
  obtain ⟨t, rfl⟩ := r1
  exact ⟨some i, H1, I1, .int i t, q⟩

/-- what a slice of a value is, by values: the slice object stands at sl -/
def SlR (X : Cx) (r : V → Option Int → Option Int → Hp → VK → Prop) : Prop :=
  ∀ (pins : List (Addr × Obj)) (s : Shared) (σ : St) (H : Hp) (x : V) (v vl vu : Value) (lo hi : Option Int) (sl : Addr) (Q : VK), Inv X pins σ H s → RelV x v → s.heap.IsSliceOf sl vl vu .none → IsPart vl lo → IsPart vu hi → r x lo hi H Q →
    ∃ T id, typeLookup (.type T) "__getitem__" = pure (some (.builtin id)) ∧ s.TypeIs v T ∧ wpAny (model X.prog X.w) X.A (getItem v (.ref sl)) (EP X pins σ Q) X.xe s
theorem SlR.or {r r' : V → Option Int → Option Int → Hp → VK → Prop} (h : SlR X r) (h' : SlR X r') : SlR X (fun x lo hi H Q => r x lo hi H Q ∨ r' x lo hi H Q) := by
  intro pins s σ H x v vl vu lo hi sl Q I rx hs pl pu q
  rcases q with q | q
  · exact h pins s σ H x v vl vu lo hi sl Q I rx hs pl pu q
  · exact h' pins s σ H x v vl vu lo hi sl Q I rx hs pl pu q
def tSl (r : V → Option Int → Option Int → Hp → VK → Prop) (te : TE) (tl th : TO) : TE := fun σ H Q => te σ H fun x H1 => tl σ H1 fun l H2 => th σ H2 fun u H3 => r x l u H3 Q
/-- a[lo:hi], any a -/
theorem pe_slice {r : V → Option Int → Option Int → Hp → VK → Prop} (hr : SlR X r) (he : PE X e te) (hl : PO X lo tl) (hu : PO X hi th) : PE X (.Subscript e (.Slice lo hi none p2) pos) (tSl r te tl th) := by
  intro pins s σ H Q I h
  refine Subscript_ (thn (he pins s σ H _ I h) fun v s1 ⟨x, H1, I1, r1, q1⟩ => ?_)
  refine wpAny_Slice (thn (hl pins s1 σ H1 _ I1 q1) fun vl s2 ⟨l, H2, I2, pl, q2⟩ => thn (hu pins s2 σ H2 _ I2 q2) fun vu s3 ⟨u, H3, I3, pu, q3⟩ => ?_)
  rw [evalPart_none]
  refine wpAny_pure ?_
  have I4 : Inv X pins σ H3 { s3 with heap := s3.heap.push { cls := .type "slice", data := .fields #[vl, vu, .none] } } := I3.kept (t' := s3.toks) fun b ob q => Heap.get?_push_of_some _ q
  obtain ⟨T, id, hT, ht, hg⟩ := hr pins { s3 with heap := s3.heap.push { cls := .type "slice", data := .fields #[vl, vu, .none] } } σ H3 x v vl vu l u s3.heap.objs.size Q I4 r1 (Heap.IsSliceOf.new ..) pl pu q3
  show wpAny (model X.prog X.w) X.A (subscriptTail e (.Slice lo hi none p2) v (.ref s3.heap.objs.size)) (EP X pins σ Q) X.xe { s3 with heap := s3.heap.push { cls := .type "slice", data := .fields #[vl, vu, .none] } }
  exact tail_any (ops := [.ref s3.heap.objs.size, v]) ht hT hg (by with_unfolding_all rfl)

/-- the items of xs[lo:hi] -/
def cutV (xs : List V) (lo hi : Option Int) : List V := (xs.drop (HT.sIx xs.length 0 lo)).take (HT.sIx xs.length xs.length hi - HT.sIx xs.length 0 lo)
theorem cutV_length (xs : List V) (lo hi : Option Int) : (cutV xs lo hi).length ≤ xs.length := by
  unfold cutV
  rw [List.length_take, List.length_drop]
  omega
/-! ### t < u, t + u -/
end
end L2

namespace L2
open PySem PySem.Spec PyProof.Rows

/-! ### places -/
/-- the place that an index of any sign means -/
def ixN (n : Nat) (i : Int) : Option Nat := if 0 ≤ i then (if i < n then some i.toNat else none) else if -(n : Int) ≤ i then some (i + n).toNat else none
def atI {α : Type} (xs : List α) (i : Int) : Option α := (ixN xs.length i).bind fun j => xs[j]?
theorem ixN_seq {n : Nat} {i : Int} {j : Nat} (h : ixN n i = some j) : seqIndex? i n = some j ∧ j < n ∧ -(n : Int) ≤ i ∧ i < n := by
  unfold ixN at h
  by_cases h0 : 0 ≤ i
  · rw [if_pos h0] at h
    by_cases h1 : i < n
    · rw [if_pos h1] at h
      have e : i.toNat = j := Option.some.inj h
      exact ⟨by rw [seqIndex_of h0 h1, e], by omega, by omega, h1⟩
    · rw [if_neg h1] at h; cases h
  · rw [if_neg h0] at h
    by_cases h1 : -(n : Int) ≤ i
    · rw [if_pos h1] at h
      have e : (i + n).toNat = j := Option.some.inj h
      exact ⟨by rw [seqIndex_neg (by omega) h1, e], by omega, h1, by omega⟩
    · rw [if_neg h1] at h; cases h
theorem atI_get {α : Type} {xs : List α} {i : Int} {v : α} (h : atI xs i = some v) : ∃ j, seqIndex? i xs.length = some j ∧ xs[j]? = some v ∧ j < xs.length ∧ -(xs.length : Int) ≤ i ∧ i < xs.length := by
  unfold atI at h
  cases e : ixN xs.length i with
  | none => rw [e] at h; cases h
  | some j =>
    rw [e] at h
    obtain ⟨h1, h2, h3, h4⟩ := ixN_seq e
    exact ⟨j, h1, h, h2, h3, h4⟩
theorem atI_nat {α : Type} {xs : List α} {j : Nat} {v : α} (h : xs[j]? = some v) : atI xs (j : Int) = some v := by
  have hj : j < xs.length := (List.getElem?_eq_some_iff.mp h).1
  have e : ixN xs.length (j : Int) = some j := by
    unfold ixN
    rw [if_pos (by omega), if_pos (by omega)]; simp
  unfold atI; rw [e]; exact h
theorem atI_last {α : Type} (xs : List α) (v : α) : atI (xs ++ [v]) (-1) = some v := by
  have hl : (xs ++ [v]).length = xs.length + 1 := by simp
  have e : ixN (xs ++ [v]).length (-1) = some xs.length := by
    unfold ixN
    rw [hl, if_neg (by decide), if_pos (by omega)]
    congr 1
    omega
  unfold atI
  rw [e]
  show (xs ++ [v])[xs.length]? = some v
  simp

/-! ### what may be subscripted -/
/-- what stands as an index of a plain subscript -/
def PlainIx (b : Expr) : Prop := ∀ o i, subscripted b false o i = operate [o, i] (getItem o i)
/-- a subscript by values -/
def IxR (X : Cx) (r : R2) : Prop :=
  ∀ (value slice : Expr) (pins : List (Addr × Obj)) (s : Shared) (σ : St) (H : Hp) (x y : V) (v u : Value) (Q : VK), Inv X pins σ H s → RelV x v → RelV y u → r x y H Q →
    subscripted slice false v u = operate [v, u] (getItem v u) → wpAny (model X.prog X.w) X.A (subscriptTail value slice v u) (EP X pins σ Q) X.xe s
/-- a call of a builtin's method by values: the receiver, the arguments -/
def MtR (X : Cx) (id : String) (r : V → List V → Hp → VK → Prop) : Prop :=
  ∀ (pins : List (Addr × Obj)) (s : Shared) (σ : St) (H : Hp) (x : V) (xs : List V) (v : Value) (us : List Value) (Q : VK), Inv X pins σ H s → RelV x v → Vals xs us → r x xs H Q →
    wpAny (model X.prog X.w) X.A (call (.builtin id) (v :: us)) (EP X pins σ Q) X.xe s
section
variable {X : Cx} {a b : Expr} {ta tb : TE} {pos : Pos}
theorem IxR.or {r r' : R2} (h : IxR X r) (h' : IxR X r') : IxR X (fun x y H Q => r x y H Q ∨ r' x y H Q) := by
  intro value slice pins s σ H x y v u Q I rx ry q hs
  rcases q with q | q
  · exact h value slice pins s σ H x y v u Q I rx ry q hs
  · exact h' value slice pins s σ H x y v u Q I rx ry q hs
theorem MtR.or {id : String} {r r' : V → List V → Hp → VK → Prop} (h : MtR X id r) (h' : MtR X id r') : MtR X id (fun x xs H Q => r x xs H Q ∨ r' x xs H Q) := by
  intro pins s σ H x xs v us Q I rx rs q
  rcases q with q | q
  · exact h pins s σ H x xs v us Q I rx rs q
  · exact h' pins s σ H x xs v us Q I rx rs q
/-- a[b] -/
theorem pe_ix {r : R2} (hr : IxR X r) (ha : PE X a ta) (hb : PE X b tb) (hs : PlainIx b) : PE X (.Subscript a b pos) (tOp r ta tb) := by
  intro pins s σ H Q I h
  exact Subscript_ (binT ha hb I h fun v u s2 x y H2 I2 rx ry q => hr a b pins s2 σ H2 x y v u Q I2 rx ry q (hs _ _))

def rIxL (K : PySem.W.Frag) : R2 := fun x y H Q => ∃ p xs i v, x = .ref p ∧ y = .int i ∧ SqL K H p xs ∧ atI xs i = some v ∧ Q v H
def rIxT (K : PySem.W.Frag) : R2 := fun x y H Q => ∃ p xs i v, x = .ref p ∧ y = .int i ∧ SqT K H p xs ∧ atI xs i = some v ∧ Q v H
def rIxS : R2 := fun x y H Q => ∃ z i c, x = .str z ∧ y = .int i ∧ z.length ≤ sizeLine ∧ atI z.cps.toList i = some c ∧ Q (.str ⟨#[c]⟩) H
theorem ix_list : IxR X (rIxL X.K) := by
  intro value slice pins s σ H x y v u Q I rx ry h hs
  obtain ⟨p, xs, i, z, rfl, rfl, hq, he, q⟩ := h
  cases rx
  obtain ⟨t, rfl⟩ := ry
  obtain ⟨its, r, pl, hz⟩ := I.list hq
  obtain ⟨j, h1, h2, h3, h4, h5⟩ := atI_get he
  obtain ⟨w, ew, rw'⟩ := r.get h2
  have hl := r.length
  have hn := line63
  have fin : EP X pins σ Q w s := ⟨z, H, I, rw', q⟩
  by_cases h0 : 0 ≤ i
  · have hj : i.toNat = j := by
      rw [seqIndex_of h0 h5] at h1
      exact Option.some.inj h1
    exact item_listR pl.isList h0 (by omega) (by rw [hj]; simpa using ew) fin hs
  · have hj : (i + (its.toArray.size : Int)).toNat = j := by
      rw [seqIndex_neg (by omega) h4] at h1
      rw [List.size_toArray, ← hl]
      exact Option.some.inj h1
    exact subscriptTail_builtinR (x := w) pl.isList.typeIs slot_list_getitem.lookup
      (wpAny_getItem_list_neg (Q := fun r s' => r = w ∧ EP X pins σ Q r s') pl.isList (by omega) (by rw [List.size_toArray] <;> omega) (by omega) (by rw [hj]; simpa using ew) ⟨rfl, fin⟩) hs
theorem ix_tup : IxR X (rIxT X.K) := by
  intro value slice pins s σ H x y v u Q I rx ry h hs
  obtain ⟨p, xs, i, z, rfl, rfl, hq, he, q⟩ := h
  cases rx
  obtain ⟨t, rfl⟩ := ry
  obtain ⟨its, r, pl, hz⟩ := I.tuple hq
  obtain ⟨j, h1, h2, h3, h4, h5⟩ := atI_get he
  obtain ⟨w, ew, rw'⟩ := r.get h2
  have hl := r.length
  have hn := line63
  have fin : EP X pins σ Q w s := ⟨z, H, I, rw', q⟩
  exact subscriptTail_builtinR (x := w) pl.typeIs slot_tuple_getitem.lookup
    (getItem_tuple (j := j) (Q := fun r s' => r = w ∧ EP X pins σ Q r s') pl (by omega) (by omega) (by rw [List.size_toArray, ← hl]; exact h1) (by simpa using ew) ⟨rfl, fin⟩) hs
theorem ix_str : IxR X rIxS := by
  intro value slice pins s σ H x y v u Q I rx ry h hs
  obtain ⟨z, i, c, rfl, rfl, hz, he, q⟩ := h
  obtain ⟨t, rfl⟩ := rx
  obtain ⟨t', rfl⟩ := ry
  obtain ⟨j, h1, h2, h3, h4, h5⟩ := atI_get he
  have hl : z.cps.toList.length = z.length := by simp [Str.length]
  rw [hl] at h1 h4 h5
  have hn := line63
  exact tail_any (typeIs_str s z t) slot_str_getitem.lookup (getItem_str (c := c) (by
    have e1 : decide (i < -(2 ^ 63 : Int)) = false := decide_eq_false (by omega)
    have e2 : decide (i ≥ 2 ^ 63) = false := decide_eq_false (by omega)
    rw [e1, e2, Bool.or_false]) (by rw [h1]; simpa using h2) ⟨.str ⟨#[c]⟩, H, I.tok _, ⟨_, rfl⟩, q⟩) hs
/-! ### xs[i] = v, any sign -/
theorem Inv.lst {pins : List (Addr × Obj)} {σ : St} {H : Hp} {s : Shared} {p : Addr} {xs : List V} (I : Inv X pins σ H s) (h : H p = some (.lst xs)) :
    ∃ (its : List Value) (n : Nat), Vals xs its ∧ s.heap.get? p = some { cls := .type "list", data := .seq its.toArray n } ∧ xs.length ≤ sizeLine := by
  obtain ⟨z, its, n, r, e⟩ := I.hok p _ h
  exact ⟨its, n, r, e, z⟩
/-! ### slices -/
theorem slice_bounds (lo hi : Option Int) (n : Nat) : (sliceBounds lo hi none n).1 = ((HT.sIx n 0 lo : Nat) : Int) ∧ (sliceBounds lo hi none n).2.1 = ((HT.sIx n n hi : Nat) : Int) ∧ (sliceBounds lo hi none n).2.2 = 1 := by
  refine ⟨?_, ?_, rfl⟩
  · cases lo with
    | none => simp [sliceBounds, HT.sIx]
    | some i =>
      simp only [sliceBounds, HT.sIx, Option.getD_none, show (1 : Int) > 0 by decide, if_true]
      by_cases h : i < 0
      · simp only [h, if_true] <;> omega
      · simp only [h, if_false] <;> omega
  · cases hi with
    | none => simp [sliceBounds, HT.sIx]
    | some i =>
      simp only [sliceBounds, HT.sIx, Option.getD_none, show (1 : Int) > 0 by decide, if_true]
      by_cases h : i < 0
      · simp only [h, if_true] <;> omega
      · simp only [h, if_false] <;> omega
theorem slicePick_cut (its : List Value) (lo hi : Option Int) : slicePick its.toArray lo hi none = ((its.drop (HT.sIx its.length 0 lo)).take (HT.sIx its.length its.length hi - HT.sIx its.length 0 lo)).toArray := by
  obtain ⟨h1, h2, h3⟩ := slice_bounds lo hi its.toArray.size
  unfold slicePick
  rw [h1, h2, h3]
  simp only [sliceRange_one, pick_run, List.size_toArray] <;> rfl
/-- xs[lo:hi] of a list: a new list -/
def rSlL (K : PySem.W.Frag) : V → Option Int → Option Int → Hp → VK → Prop := fun x lo hi H Q => ∃ a xs, x = .ref a ∧ SqL K H a xs ∧ ∀ p, H p = none → Q (.ref p) (upd H p (.lst (cutV xs lo hi)))
theorem sl_list : SlR X (rSlL X.K) := by
  intro pins s σ H x v vl vu lo hi sl Q I rx hs pl pu h
  obtain ⟨a, xs, rfl, hx, q⟩ := h
  cases rx
  obtain ⟨its, r, ht, hz⟩ := I.list hx
  have hlen := r.length
  refine ⟨"list", _, slot_list_getitem.lookup, ht.isList.typeIs, ?_⟩
  refine wpAny_getItem_list_slice ht.isList hs pl pu .none (by simp) ?_ (by rw [List.size_toArray] <;> omega)
  rw [slicePick_cut, ← hlen]
  refine ⟨.ref s.heap.objs.size, _, I.laid (t' := s.toks) (o := .lst (cutV xs lo hi)) (fun b ob q => Heap.get?_push_of_some _ q) (Nat.le_refl _) ?_, rfl, q _ (I.hok.fresh (Nat.le_refl _))⟩
  exact ⟨Nat.le_trans (cutV_length xs lo hi) hz, _, 0, (r.drop (HT.sIx xs.length 0 lo)).take (HT.sIx xs.length xs.length hi - HT.sIx xs.length 0 lo), Heap.get?_push_size _ rfl⟩

/-! ### in, not in: flat items -/
def flatV : V → Bool
  | .non => true
  | .bl _ => true
  | .int _ => true
  | .str _ => true
  | _ => false
/-! ### len, list(x), tuple(x) of any list or tuple that is read -/
theorem call_len_seq : CallR X (.builtin "len") (fun xs H Q => ∃ p ys, xs = [.ref p] ∧ (SqL X.K H p ys ∨ SqT X.K H p ys) ∧ Q (.int ys.length) H) := by
  intro pins s σ H xs us Q I r h
  obtain ⟨p, ys, rfl, hq, q⟩ := h
  obtain ⟨u, rfl, rx⟩ := vals1 r
  cases rx
  have hn := line63
  rcases hq with hq | hq
  · obtain ⟨its, r', pl, hz⟩ := I.list hq
    have hlen := r'.length
    exact Calls.call_len_list pl.isList (by simp only [List.size_toArray] <;> omega) ⟨.int ys.length, H, I.tok _, ⟨s.toks + 1, by rw [List.size_toArray, hlen]⟩, q⟩
  · obtain ⟨its, r', pl, hz⟩ := I.tuple hq
    have hlen := r'.length
    exact len_tuple pl (by simp only [List.size_toArray] <;> omega) ⟨.int ys.length, H, I.tok _, ⟨s.toks + 1, by rw [List.size_toArray, hlen]⟩, q⟩
theorem CallR.or {f : Value} {r r' : List V → Hp → VK → Prop} (h : CallR X f r) (h' : CallR X f r') : CallR X f (fun xs H Q => r xs H Q ∨ r' xs H Q) := by
  intro pins s σ H xs us Q I rs q
  rcases q with q | q
  · exact h pins s σ H xs us Q I rs q
  · exact h' pins s σ H xs us Q I rs q
theorem call_list_of : CallR X (.type "list") (fun xs H Q => ∃ p ys, xs = [.ref p] ∧ (SqL X.K H p ys ∨ SqT X.K H p ys) ∧ ∀ l, H l = none → Q (.ref l) (upd H l (.lst ys))) := by
  intro pins s σ H xs us Q I r h
  obtain ⟨p, ys, rfl, hq, q⟩ := h
  obtain ⟨u, rfl, rx⟩ := vals1 r
  cases rx
  have fin : ∀ (its : List Value), Vals ys its → ys.length ≤ sizeLine → ∀ (h' : Heap) (c' : Nat), (∀ b o', s.heap.get? b = some o' → h'.get? b = some o') →
      h'.get? s.heap.objs.size = some { cls := .type "list", dict := none, data := .seq its.toArray c', slots := #[] } → EP X pins σ Q (.ref s.heap.objs.size) { s with heap := h' } := fun its r' hz h' c' kp e =>
    ⟨.ref s.heap.objs.size, _, I.laid (t' := s.toks) kp (Nat.le_refl _) (show ObjOk X.prog X.w _ h' _ (.lst ys) from ⟨hz, its, c', r', e⟩), rfl, q _ (I.hok.fresh (Nat.le_refl _))⟩
  rcases hq with hq | hq
  · obtain ⟨its, r', pl, hz⟩ := I.list hq
    have hlen := r'.length
    obtain ⟨o, ho, hc, n, hd⟩ := pl.isList
    exact call_list_seq p (.inl rfl) ho hc hd (fun h' c' kp e => fin its r' hz h' c' kp e) (by simp only [List.size_toArray] <;> omega)
  · obtain ⟨its, r', pl, hz⟩ := I.tuple hq
    have hlen := r'.length
    obtain ⟨o, ho, hc, n, hd⟩ := pl
    exact call_list_seq p (.inr rfl) ho hc hd (fun h' c' kp e => fin its r' hz h' c' kp e) (by simp only [List.size_toArray] <;> omega)
theorem call_tuple_of : CallR X (.type "tuple") (fun xs H Q => ∃ p ys, xs = [.ref p] ∧ ((SqL X.K H p ys ∧ ∀ l, H l = none → Q (.ref l) (upd H l (.tup ys))) ∨ (SqT X.K H p ys ∧ Q (.ref p) H))) := by
  intro pins s σ H xs us Q I r h
  obtain ⟨p, ys, rfl, h⟩ := h
  obtain ⟨u, rfl, rx⟩ := vals1 r
  cases rx
  rcases h with ⟨hq, q⟩ | ⟨hq, q⟩
  · obtain ⟨its, r', pl, hz⟩ := I.list hq
    have hlen := r'.length
    refine call_tuple_list pl.isList (fun h' kp => ?_) (by simp only [List.size_toArray] <;> omega)
    have I1 : Inv X pins σ H { s with heap := h' } := I.kept (t' := s.toks) kp
    have I2 : Inv X pins σ (upd H h'.objs.size (.tup ys)) { s with heap := h'.push { cls := .type "tuple", data := .seq its.toArray } } :=
      I1.laid (t' := s.toks) (fun b o e => Heap.get?_push_of_some _ e) (Nat.le_refl _) (show ObjOk X.prog X.w _ _ _ (.tup ys) from ⟨hz, its, r', IsTup.new _ _⟩)
    exact ⟨.ref h'.objs.size, _, I2, rfl, q _ (I1.hok.fresh (Nat.le_refl _))⟩
  · obtain ⟨its, r', pl, hz⟩ := I.tuple hq
    exact call_tuple_same pl ⟨.ref p, H, I, rfl, q⟩

/-! ### the call of a builtin's method: o.m(..) -/
/-- the value is of that builtin type -/
def tyV (K : PySem.W.Frag) (T : String) (x : V) (H : Hp) : Prop := match x with
  | .str _ => T = "str"
  | .int _ => T = "int"
  | .ref p => (T = "list" ∧ ∃ xs, SqL K H p xs) ∨ (T = "tuple" ∧ ∃ o, K.lookup p = some o ∧ o.cls = .type "tuple" ∧ o.dict = none) ∨
      (T = "dict" ∧ ((∃ kvs, H p = some (.dK kvs)) ∨ ∃ kvs, H p = some (.dT kvs))) ∨ (T = "set" ∧ ∃ S n, H p = some (.set S n))
  | _ => False
theorem tyV_is {pins : List (Addr × Obj)} {σ : St} {H : Hp} {s : Shared} {T : String} {x : V} {v : Value} (I : Inv X pins σ H s) (r : RelV x v) (ty : tyV X.K T x H) :
    s.TypeIs v T ∧ ∀ a, v = .ref a → ∃ ob, s.heap.get? a = some ob ∧ ob.dict = none := by
  cases x with
  | str z =>
    obtain ⟨t, rfl⟩ := r
    cases (show T = "str" from ty)
    exact ⟨typeIs_str s z t, fun _ e => nomatch e⟩
  | int i =>
    obtain ⟨t, rfl⟩ := r
    cases (show T = "int" from ty)
    exact ⟨typeIs_int s i t, fun _ e => nomatch e⟩
  | ref p =>
    cases r
    rcases ty with ⟨rfl, xs, hq⟩ | ⟨rfl, o, hk, hc, hd⟩ | ⟨rfl, hk⟩ | ⟨rfl, S, n, hk⟩
    · obtain ⟨its, _, pl, _⟩ := I.list hq
      refine ⟨pl.isList.typeIs, fun a e => ?_⟩
      cases e
      obtain ⟨o, n, e, c, hd, _⟩ := pl
      exact ⟨o, e, hd⟩
    · refine ⟨⟨o, I.kIn p o hk, hc⟩, fun a e => ?_⟩
      cases e
      exact ⟨o, I.kIn _ o hk, hd⟩
    · have z : ∃ o, s.heap.get? p = some o ∧ o.ExactDict := by
        rcases hk with ⟨kvs, hk⟩ | ⟨kvs, hk⟩
        · obtain ⟨_, _, _, _, o, _, _, e, ex, _⟩ := I.hok p _ hk
          exact ⟨o, e, ex⟩
        · obtain ⟨_, _, _, _, o, _, _, e, ex, _⟩ := I.hok p _ hk
          exact ⟨o, e, ex⟩
      obtain ⟨o, e, ex⟩ := z
      refine ⟨⟨o, e, ex.1⟩, fun a e2 => ?_⟩
      cases e2
      exact ⟨o, e, ex.2.1⟩
    · obtain ⟨o, _, _, _, e, ex, _⟩ := I.hok p _ hk
      refine ⟨⟨o, e, ex.1⟩, fun a e2 => ?_⟩
      cases e2
      exact ⟨o, e, ex.2.1⟩
  | _ => exact False.elim ty
def tBM0 (K : PySem.W.Frag) (T : String) (r : V → List V → Hp → VK → Prop) (to : TE) : TE := fun σ H Q => to σ H fun x H1 => tyV K T x H1 ∧ r x [] H1 Q
def tBM (K : PySem.W.Frag) (T : String) (r : V → List V → Hp → VK → Prop) (to : TE) (t : TA) : TE := fun σ H Q => to σ H fun x H1 => tyV K T x H1 ∧ t σ H1 fun xs H2 => r x xs H2 Q
variable {o e : Expr} {es : List Expr} {to : TE} {t : TA} {name : Str} {apos cpos : Pos} {T id : String} {r : V → List V → Hp → VK → Prop}
theorem pe_bm0 (pa : PlainAttrs T) (slot : Slot T name id) (hty : typeOf (.builtin id) = pure (.type "method_descriptor")) (hm : MtR X id r) (ho : PE X o to)
    (hbase : attributeBase o name X.env (eval o X.env) = eval o X.env := by rfl) (hline : (apos.endLine == cpos.line) = true := by rfl) : PE X (.Call (.Attribute o name apos) [] [] cpos) (tBM0 X.K T r to) := by
  intro pins s σ H Q I h
  refine wpAny_Call_method0_late hbase hline (thn (ho pins s σ H _ I h) fun v s1 ⟨x, H1, I1, r1, ty, q1⟩ => ?_)
  obtain ⟨h1, h2⟩ := tyV_is I1 r1 ty
  exact ⟨T, id, pa, slot, hty, h1, h2, Calls.callWith_builtin rfl (PySem.evalArgs_none (hm pins s1 σ H1 x [] v [] Q I1 r1 .nil q1))⟩
theorem pe_bm (pa : PlainAttrs T) (slot : Slot T name id) (hty : typeOf (.builtin id) = pure (.type "method_descriptor")) (hm : MtR X id r) (ho : PE X o to) (ha : PA X (e :: es) t)
    (hbase : attributeBase o name X.env (eval o X.env) = eval o X.env := by rfl)
    (hfew : ((backTo cpos (starEach (e :: es) X.env)).all (fun x => !x.1) && (backToKw cpos (keywordEach [] X.env)).all (fun x => x.1.isSome)
      && decide ((e :: es).length + ([] : List Keyword).length + (if ([] : List Keyword).isEmpty then 0 else 1) < 30)) = true := by rfl)
    (hline : (apos.endLine == cpos.line) = true := by rfl) (hs : starEach (e :: es) X.env = (false, eval e X.env) :: starEach es X.env := by rfl) (hplain : (backTo cpos (starEach es X.env)).any (·.1) = false := by rfl) :
    PE X (.Call (.Attribute o name apos) (e :: es) [] cpos) (tBM X.K T r to t) := by
  intro pins s σ H Q I h
  refine wpAny_Call_method_late hbase hfew hline rfl (thn (ho pins s σ H _ I h) fun v s1 ⟨x, H1, I1, r1, ty, q1⟩ => ?_)
  obtain ⟨h1, h2⟩ := tyV_is I1 r1 ty
  refine ⟨T, id, pa, slot, hty, h1, h2, ?_⟩
  have hA := ha cpos pins s1 σ H1 _ I1 q1
  rw [hs] at hA ⊢
  refine Calls.callWith_builtin (by show (false || (backTo cpos (starEach es X.env)).any (·.1)) = false; rw [hplain] <;> rfl) (Calls.evalArgs_plain ?_)
  exact thn hA fun us s2 ⟨vs, H2, I2, r2, q2⟩ => hm pins s2 σ H2 x vs v us Q I2 r1 r2 q2
/- xs.append(e), list.index on a module's tuple .. are MtR facts of 06m -/
end
end L2

namespace L2
open PySem PySem.Spec PyProof.Rows

def MtM (X : Cx) (id : String) (r : V → List V → Hp → VK → Prop) : Prop :=
  ∀ (pins : List (Addr × Obj)) (s : Shared) (σ : St) (H : Hp) (x : V) (xs : List V) (v : Value) (us : List Value) (Q : VK), Inv X pins σ H s → RelV x v → Vals xs us → r x xs H Q →
    wpAny (model X.prog X.w) X.A (call (.builtin id) (v :: us)) (EP X pins σ Q) X.xe s

/-! ### lists of values -/
theorem Vals.one : ∀ {x : V} {us : List Value}, Vals [x] us → ∃ u, us = [u] ∧ RelV x u
  | _, _, .cons r .nil => ⟨_, rfl, r⟩
theorem Vals.two : ∀ {x y : V} {us : List Value}, Vals [x, y] us → ∃ u v, us = [u, v] ∧ RelV x u ∧ RelV y v
  | _, _, _, .cons r (.cons q .nil) => ⟨_, _, rfl, r, q⟩
theorem Vals.zero : ∀ {us : List Value}, Vals [] us → us = []
  | _, .nil => rfl
theorem Vals.dropLast {xs : List V} {us : List Value} (h : Vals xs us) : Vals xs.dropLast us.dropLast := by
  induction h with
  | nil => exact .nil
  | cons r t ih =>
    cases t with
    | nil => exact .nil
    | cons q t' => exact .cons r ih
theorem Vals.eraseIdx : ∀ {xs : List V} {us : List Value} (i : Nat), Vals xs us → Vals (xs.eraseIdx i) (us.eraseIdx i)
  | _, _, _, .nil => .nil
  | _, _, 0, .cons _ t => t
  | _, _, i + 1, .cons r t => .cons r (Vals.eraseIdx i t)
theorem Vals.reverse {xs : List V} {us : List Value} (h : Vals xs us) : Vals xs.reverse us.reverse := by
  induction h with
  | nil => exact .nil
  | cons r t ih => rw [List.reverse_cons, List.reverse_cons]; exact Vals.append ih (.cons r .nil)
theorem erase_last {α : Type} (l : List α) : l.eraseIdx (l.length - 1) = l.dropLast := by
  induction l with
  | nil => rfl
  | cons a r ih =>
    cases r with
    | nil => rfl
    | cons b r =>
      have e : (a :: b :: r).length - 1 = ((b :: r).length - 1) + 1 := by
        have h1 : (a :: b :: r).length = r.length + 2 := rfl
        have h2 : (b :: r).length = r.length + 1 := rfl
        omega
      rw [e, List.eraseIdx_cons_succ, ih]
      all_goals rfl
section
variable {X : Cx} {pins : List (Addr × Obj)} {σ : St} {H : Hp} {s : Shared} {l b : Addr} {xs ys zs : List V}

/-! ### the two steps: a tracked list is rewritten, a new list is laid -/
theorem Inv.lset {its its' : List Value} {n : Nat} {f : Array Value → Array Value} {t' : Nat} (I : Inv X pins σ H s) (hH : H l = some (.lst xs))
    (e : s.heap.get? l = some { cls := .type "list", data := .seq its.toArray n }) (hf : f its.toArray = its'.toArray) (hv : Vals ys its') (hz : ys.length ≤ sizeLine) :
    Inv X pins σ (upd H l (.lst ys)) { s with heap := s.heap.update l (Obj.mapSeq f), toks := t' } := by
  have q := PySem.IsL.update e f
  rw [hf] at q
  refine I.write (x := l) (e := l) (by rw [hH]; exact trivial) (.inl rfl) (fun b' u hb hu => (Heap.get?_update_other s.heap (Obj.mapSeq f) (Ne.symm hb)).trans hu) ⟨_, q⟩ ?_
  exact ⟨hz, its', _, hv, q⟩
theorem Inv.lnew {its : List Value} {t' : Nat} (I : Inv X pins σ H s) (hv : Vals ys its) (hz : ys.length ≤ sizeLine) :
    Inv X pins σ (upd H s.heap.objs.size (.lst ys)) { s with heap := s.heap.push { cls := .type "list", data := .seq its.toArray }, toks := t' } :=
  I.laid (fun _ _ q => Heap.get?_push_of_some _ q) (Nat.le_refl _) ⟨hz, its, 0, hv, Heap.get?_push_size _ rfl⟩
theorem Inv.fresh (I : Inv X pins σ H s) : H s.heap.objs.size = none := I.hok.fresh (Nat.le_refl _)
theorem Inv.lstM (I : Inv X pins σ H s) (hH : H l = some (.lst xs)) : xs.length ≤ sizeLine ∧ ∃ (its : List Value) (n : Nat), Vals xs its ∧ xs.length = its.length ∧ s.heap.get? l = some { cls := .type "list", data := .seq its.toArray n } := by
  obtain ⟨z, its, n, r, e⟩ := I.hok l _ hH
  exact ⟨z, its, n, r, r.length, e⟩

theorem notLongL {n : Nat} (h : n ≤ sizeLine) : Builtin.List.listTooLong n = false := by
  unfold Builtin.List.listTooLong
  exact decide_eq_false (by omega)
end

section
variable {X : Cx}

/-! ### methods -/
def rAppend : V → List V → Hp → VK → Prop := fun x vs H Q => ∃ l xs y, x = .ref l ∧ vs = [y] ∧ H l = some (.lst xs) ∧ xs.length < sizeLine ∧ Q .non (upd H l (.lst (xs ++ [y])))
theorem mt_append : MtM X "list.append" rAppend := by
  intro pins s σ H x vs v us Q I rx rv h
  obtain ⟨l, xs, y, rfl, rfl, hH, hz, q⟩ := h
  cases rx
  obtain ⟨u, rfl, ru⟩ := rv.one
  obtain ⟨z, its, n, r, hl, e⟩ := I.lstM hH
  refine call_meets F.slot_list_append ⟨_, e, rfl⟩ F.entry_list_append (F.args_list_append_2 _ _) (PySem.list_append l its.toArray n u (by rw [List.size_toArray]; omega)) ⟨e, ?_⟩
  refine ⟨.non, _, I.lset (its' := its ++ [u]) hH e (by simp) (r.append (.cons ru .nil)) ?_, rfl, q⟩
  rw [List.length_append, List.length_singleton]
  omega

def rPop : V → List V → Hp → VK → Prop := fun x vs H Q => ∃ l xs y, x = .ref l ∧ vs = [] ∧ H l = some (.lst xs) ∧ xs[xs.length - 1]? = some y ∧ Q y (upd H l (.lst xs.dropLast))
theorem mt_pop : MtM X "list.pop" rPop := by
  intro pins s σ H x vs v us Q I rx rv h
  obtain ⟨l, xs, y, rfl, rfl, hH, hy, q⟩ := h
  cases rx
  have hus := rv.zero
  subst hus
  obtain ⟨z, its, n, r, hl, e⟩ := I.lstM hH
  obtain ⟨u, hu, ru⟩ := r.get hy
  have hy' : its.toArray[its.toArray.size - 1]? = some u := by
    show its.toArray[its.length - 1]? = some u
    rw [← Array.getElem?_toList, ← hl]
    exact hu
  refine call_meets F.slot_list_pop ⟨_, e, rfl⟩ F.entry_list_pop (F.args_list_pop_1 _) (MeetsSeq.list_pop_last l its.toArray n u hy' (by rw [List.size_toArray]; omega)) ⟨e, ?_⟩
  refine ⟨y, _, I.lset (its' := its.dropLast) hH e ?_ r.dropLast ?_, ru, q⟩
  · show its.toArray.eraseIdxIfInBounds (its.toArray.size - 1) = its.dropLast.toArray
    rw [List.size_toArray, List.eraseIdxIfInBounds_toArray, erase_last]
  · rw [List.length_dropLast]
    omega

/-! ### list + list, list += list, list * int -/
/-! ### del xs[i] -/
end

/-! ### xs[a:b] = ys -/
section
variable {prog : Program} {w : World} {A : Around} {E : Value → Shared → Prop} {s : Shared}
end

section
variable {X : Cx}
end
end L2

namespace Att
open PySem PySem.W PySem.Calls PyProof.Rows

/-! ### the script -/
theorem ints_of_wellAll {P : Params} {h : Heap} : ∀ (ns : List Int) (vs : List Value), WellAll P h vs (ns.map WData.int) → IntsAre vs ns := by
  intro ns
  induction ns with
  | nil =>
    intro vs w
    rw [List.map_nil] at w
    cases w
    exact .nil
  | cons n ns ih =>
    intro vs w
    rw [List.map_cons] at w
    cases w with
    | cons a b =>
      cases a
      exact .cons _ _ (ih _ b)

theorem script_of {l : OpenLaw} {n : Nat} (hn : l.most = some n) {P : Params} {h : Heap} {args : List WData} {vals : List Value}
    (hpre : l.row.toRowW.claim.pre args = true) (hwl : WellAll P h vals args) :
    ∃ a vs ns, vals = [Value.ref a] ∧ args = [WData.list (ns.map WData.int)] ∧ h.get? a = some { cls := .type "list", data := .seq vs.toArray } ∧ IntsAre vs ns ∧ ns.length ≤ n := by
  have hsh : WShape.hasAll [] args [.list .int] = true := (pre_splitW hpre).1
  have hc : l.pre.holds [] { args := args } = true := (pre_splitW hpre).2
  obtain ⟨d, r, rfl, h1, h2⟩ := hasAllW_cons hsh
  obtain rfl := hasAllW_nil h2
  obtain ⟨xs, rfl, h3⟩ := hasW_list h1
  obtain ⟨ns, rfl⟩ := items_int h3
  have hlen : ns.length ≤ n := by
    unfold OpenLaw.pre at hc
    have h4 : (WTm.not (.lt (.lit (.int (n : Int))) (.len (.arg 0)))).holds [] { args := [.list (ns.map .int)] } = true := by
      have h4 := (holds_andW hc).1
      rw [hn] at h4
      exact h4
    have h5 := condW_of h4 (w_not (w_lt w_lit (w_len_list (w_arg rfl))))
    rw [List.length_map] at h5
    refine Nat.le_of_not_lt fun q => ?_
    have q' : (n : Int) < ((ns.length : Nat) : Int) := by omega
    first
      | (rw [decide_eq_true q'] at h5; exact absurd h5 (by decide))
      | (simp at h5; omega)
  cases hwl with
  | cons w1 w2 =>
    cases w2
    cases w1 with
    | list ho hall => exact ⟨_, _, ns, rfl, rfl, ho, ints_of_wellAll ns _ hall, hlen⟩

theorem post_true (l : OpenLaw) (args : List WData) : l.row.toRowW.claim.post args (.bool true) args = true :=
  postW_of (r := l.row.toRowW) (X := (true == true))
    (show WShape.has [] (.bool true) .bool = true by first | rfl | decide | simp [WShape.has, WShape.arms, WShape.armsAll])
    (show (WTm.eq .res (.lit (.bool true))).value [] { args := args, res := some (.bool true), after := args } = some (.bool (true == true)) from w_eq_bool (w_res rfl) w_lit) rfl

/-! ### the attachment: holds_open's last premise (the goal 'hc' behind k_head) from a wpAny of the law's body -/
/-- the same from a codeAny of the CALL (for a layer whose function contracts speak of calls) -/
theorem attach_call {l : OpenLaw} {n : Nat} {q : Program} {loose : List Str} {XP : (Str → Option Value) → Heap → Prop} {YP : World → Heap → Prop} {d : DefRec}
    (hn : l.most = some n) (hdf : d.params.defaults = [])
    (call : ∀ (w : World) (s₀ s₁ : Shared) (mg mb : Str → Option Value) (fa : Addr) (o : Obj) (pm cd doc : Value) (a : Addr) (vs : List Value) (ns : List Int),
      Ground q loose [] XP w s₀ mg mb s₁.heap → YP w s₁.heap →
      s₁.heap.get? fa = some o → o.data = .func (docDef d.name d.params d.body d.scope pm cd doc) → s₁.heap.CodeRec cd d.name → mg d.name = some (.ref fa) →
      s₁.heap.get? a = some { cls := .type "list", data := .seq vs.toArray } → IntsAre vs ns → ns.length ≤ n → s₁.gens = #[] →
      codeAny (model l.prog w) callerA (.call (.ref fa) ⟨[.ref a], []⟩) (fun r s' => r = .ok (.ret (.bool true)) ∧ OldK s₁.heap s'.heap ∧ s'.os = s₁.os ∧ AllBare s'.gens) s₁) :
    WalkO q loose XP YP l.row.toRowW d [] (fun f vs => PySem.call f vs) := by
  intro w s₀ s₁ mg mb G Y fa o pm cd doc dV kV ho hd hcd hD hmg hg args vals as hpre hlay hrd hwl hlo
  obtain rfl : dV = .none := Dflts.none hD hdf
  obtain rfl : kV = .none := Dflts.noKw hD
  obtain ⟨a, vs, ns, rfl, rfl, hobj, hints, hlen⟩ := script_of hn hpre hwl
  refine enter_call (codeAny_mono (call w s₀ s₁ mg mb fa o pm cd doc a vs ns G Y ho (fd_plain hd) hcd hmg hobj hints hlen hg) fun r s' hq => ?_)
  obtain ⟨rfl, h2, h3, h4⟩ := hq
  exact ⟨.inl ⟨.bool true, .bool true, [], rfl, fun _ => rfl, .bool true, post_true l _, fun _ => ⟨List.Pairwise.nil, fun _ hm => (nomatch hm)⟩⟩, h2, h3, h4⟩

/-! ### rules over ANY heap (no ledger) from facts about the written part K: the library's own take a ledger (News) for what they write -/
section
variable {prog : Program} {w : World} {A : Around} {E : Value → Shared → Prop} {s : Shared} {K : Frag}

/-! the whole heap as the ledger: makes every rule that writes through a ledger a rule over any heap -/
def ledger (h : Heap) (L d : Addr) : List (Addr × Obj) := (List.range h.objs.size).filterMap fun a => if a = L ∨ a = d then none else (h.get? a).map fun o => (a, o)
end
end Att

namespace L2
open PySem PySem.Spec PyProof.Rows

theorem vals_ints : ∀ {vs : List Value} {ns : List Int}, IntsAre vs ns → Vals (ns.map V.int) vs
  | _, _, .nil => .nil
  | _, _, .cons n t h => .cons ⟨t, rfl⟩ (vals_ints h)

/-- nothing is tracked but the script, known to the object (or it is an object of the module) -/
def Only (H : Hp) : Prop := ∀ b, H b = none ∨ ∃ o xs, H b = some (.frz o (.lst xs))

/-- THE HEAD: the law's promise, at the heap behind the top. F, the promise of the law's def, may use that base is part of the heap (so K.In base, base.Ns mainGlobals mg stand in Mod) -/
theorem law_call {P : Program} {w : World} {K : PySem.W.Frag} {mg mb : Str → Option Value} {CX : CXT} {k : Nat} {fa a : Addr} {fd : FuncData} {x : Str} {sp : Sp} {s₁ : Shared} {vs : List Value} {ns : List Int}
    (KX : K.In s₁.heap) (hns : s₁.heap.Ns mainGlobals mg) (hb : s₁.heap.Ns builtinsNs mb) (hbb : ∀ x : Str, x ≠ "__name__" → mb x = bootBuiltins x) (hlim : s₁.heap.NoLimit) (hg : s₁.gens = #[])
    (ha : s₁.heap.get? a = some { cls := .type "list", data := .seq vs.toArray }) (hi : IntsAre vs ns) (hl : ns.length ≤ sizeLine) (hr : Room k callerA)
    (F : ∀ base : Heap, K.In base → base.Ns mainGlobals mg → FnOk P w K mg base CX k fa fd [x] sp) (hbind : ∀ (s : Shared) (u : Value), BindsTo s fd ⟨[u], []⟩ [(x, u)])
    (hsp : ∀ H : Hp, Only H → SqL K H a (ns.map V.int) → sp [.ref a] H (fun v _ => v = .bl true) fun _ _ _ => False)
    (hCX : ∀ H e s', CX [] H s₁ (fun _ _ _ => False) e s' → False) :
    codeAny (model P w) callerA (.call (.ref fa) ⟨[.ref a], []⟩) (fun r s' => r = .ok (.ret (.bool true)) ∧ OldK s₁.heap s'.heap ∧ s'.os = s₁.os ∧ AllBare s'.gens) s₁ := by
  have rv := vals_ints hi
  have lenV := hi.length
  -- from an abstract heap in which nothing but the script may be tracked
  have core : ∀ H : Hp, Only H → SqL K H a (ns.map V.int) → HOk P w H s₁.heap → (∀ b, H b ≠ none → b = a) → (H a ≠ none → K.lookup a = none) →
      codeAny (model P w) callerA (.call (.ref fa) ⟨[.ref a], []⟩) (fun r s' => r = .ok (.ret (.bool true)) ∧ OldK s₁.heap s'.heap ∧ s'.os = s₁.os ∧ AllBare s'.gens) s₁ := by
    intro H hO hS hok hA hK
    have base_of : ∀ {b : Addr} {o : Obj}, s₁.heap.get? b = some o → H b = none → (hidT s₁.heap H).get? b = some o := fun e n => hidT_get e n
    have noA : ∀ {b : Addr} {o : Obj} {es : Array DictEntry} {ep : Nat}, s₁.heap.get? b = some o → o.data = .dict es ep → H b = none := fun {b o es ep} e d => by
      cases q : H b with
      | none => rfl
      | some u =>
        have e' : b = a := hA b (by rw [q]; simp)
        subst e'
        rw [ha] at e; cases e
        have d' : Data.seq vs.toArray _ = Data.dict es ep := d
        cases d'
    have nsK : ∀ {b : Addr} {m : Str → Option Value}, s₁.heap.Ns b m → (hidT s₁.heap H).Ns b m := fun {b m} ⟨o, es, ep, e, d, r⟩ => ⟨o, es, ep, base_of e (noA e d), d, r⟩
    have hKb : K.In (hidT s₁.heap H) := fun b o e => base_of (KX b o e) (by
      cases q : H b with
      | none => rfl
      | some u =>
        have e' : b = a := hA b (by rw [q]; simp)
        subst e'
        rw [hK (by rw [q]; simp)] at e; cases e)
    have hM : Mod K mg (hidT s₁.heap H) := ⟨hKb, nsK hns, ⟨mb, nsK hb, hbb⟩, let ⟨mc, h1, h2⟩ := hlim; ⟨mc, nsK h1, h2⟩⟩
    have e0 : Env0 P w K mg (hidT s₁.heap H) callerA [] s₁ H := ⟨rfl, hM, fun b o e => of_hidT e, Nat.le_of_eq (hidT_size _ _), trivial, fun b hb => absurd (show b ∈ ([] : List Addr) from hb) (by simp), hok, .of_eq hg⟩
    refine codeAny_mono ((F _ hKb (nsK hns)).run callerA [] s₁ H ⟨[.ref a], []⟩ [.ref a] [.ref a] _ _ hr e0 (hbind s₁ (.ref a)) (.cons rfl .nil) (hsp H hO hS)) fun r s' h => ?_
    cases r with
    | error e => exact (hCX H e s' h).elim
    | ok fl =>
      cases fl with
      | next => exact False.elim h
      | brk => exact False.elim h
      | cont => exact False.elim h
      | ret u =>
        obtain ⟨v, H', os, bare, un, hok', r', q⟩ := h
        have q' : v = .bl true := q
        subst q'
        obtain rfl : u = Value.bool true := r'
        refine ⟨rfl, OldK.of_keep fun b o e => ?_, os, bare⟩
        cases q : H b with
        | none => exact un.keep b o e q (by intro z; exact absurd (show b ∈ ([] : List Addr) from z) (by simp)) (by simp)
        | some u =>
          rcases hO b with z | ⟨ob, xs, z⟩
          · rw [q] at z; cases z
          · have z2 := un.frzs b ob _ z
            obtain ⟨e1, _⟩ := hok b _ z
            obtain ⟨e2, _⟩ := hok' b _ z2
            rw [e] at e1; cases e1
            exact e2
  cases hk : K.lookup a with
  | some o =>
    -- the script is one of the module's own objects
    have e := KX a o hk
    rw [ha] at e
    cases e
    refine core (fun _ => none) (fun _ => .inl rfl) (.inr ⟨_, vs.toArray, _, hk, rfl, rfl, rfl, by rw [List.size_toArray, lenV]; exact hl, by simpa using rv⟩) (fun b u z => by have z' : (none : Option HO) = some u := z; cases z') (fun b z => absurd rfl z) fun z => absurd rfl z
  | none =>
    refine core (fun b => if b = a then some (.frz { cls := .type "list", data := .seq vs.toArray } (.lst (ns.map V.int))) else none) (fun b => ?_) (.inl (.inr ⟨{ cls := .type "list", data := .seq vs.toArray }, if_pos rfl⟩)) (fun b u z => ?_) (fun b z => ?_) fun _ => hk
    · by_cases hb : b = a
      · exact .inr ⟨_, _, if_pos hb⟩
      · exact .inl (if_neg hb)
    · by_cases hb : b = a
      · have z' := (if_pos hb).symm.trans z
        cases z'
        subst hb
        exact ⟨ha, by rw [List.length_map]; exact hl, vs, _, rv, ha⟩
      · have z' := (if_neg hb).symm.trans z
        cases z'
    · by_cases hb : b = a
      · exact hb
      · exact absurd (if_neg hb) z
end L2

namespace L2
open PySem PySem.Spec PyProof.Rows

abbrev KOf {K : PySem.W.Frag} {h : Heap} (_ : K.In h) : PySem.W.Frag := K

/-- the goal that k_head leaves (case hc), from the law's promise. F gives the function object fd (K's own) once, then the promise over every base -/
theorem walk_of {l : PySem.W.OpenLaw} {n k : Nat} {q : Program} {loose : List Str} {XP : (Str → Option Value) → Heap → Prop} {YP : World → Heap → Prop} {d : DefRec} {K : Params → PySem.W.Frag} {CX : World → CXT} {sp : World → Sp} {x : Str}
    (hn : l.most = some n) (hn2 : n ≤ sizeLine) (hdf : d.params.defaults = []) (hr : Room k callerA)
    (hY : ∀ (w : World) (h : Heap), YP w h → (K w.params).In h)
    (F : ∀ (w : World) (mg : Str → Option Value) (fa : Addr) (h : Heap), (K w.params).In h → h.Ns mainGlobals mg → mg d.name = some (.ref fa) →
      ∃ fd : FuncData, (∀ (s : Shared) (u : Value), BindsTo s fd ⟨[u], []⟩ [(x, u)]) ∧
        ∀ base : Heap, (K w.params).In base → base.Ns mainGlobals mg → FnOk l.prog w (K w.params) mg base (CX w) k fa fd [x] (sp w))
    (hsp : ∀ (w : World) (H : Hp) (a : Addr) (ns : List Int), ns.length ≤ n → Only H → SqL (K w.params) H a (ns.map V.int) → sp w [.ref a] H (fun v _ => v = .bl true) fun _ _ _ => False)
    (hCX : ∀ (w : World) (H : Hp) (s : Shared) (e : Value) (s' : Shared), CX w [] H s (fun _ _ _ => False) e s' → False) :
    PySem.W.WalkO q loose XP YP l.row.toRowW d [] (fun f vs => PySem.call f vs) := by
  refine Att.attach_call hn hdf fun w s₀ s₁ mg mb fa o pm cd doc a vs ns G Y ho hd hcd hmg hobj hints hlen hg => ?_
  have KX := hY w _ Y
  obtain ⟨fd, hb, hF⟩ := F w mg fa _ KX G.T.g hmg
  exact law_call KX G.T.g G.T.b G.T.builtins G.T.nolimit hg hobj hints (Nat.le_trans hlen hn2) hr hF hb (fun H hO hS => hsp w H a ns hlen hO hS) fun H e s' => hCX w H s₁ e s'
end L2

/- THE LAST THEOREM (shape; LID, My.* are yours):
   My.Adr: a structure of the addresses that your layer names (classes, functions); My.Txt K t: a structure (Prop) of the equations over K;
   My.txt_mk : {K} {implicit addresses ..} (e1 : nsIn K mainGlobals "law" = some (some (.ref f))) (e2 : K.lookup f = some ⟨oc, od, .func (fnOf "law" "law" params body scope dV kV doc pm an cdv ct), sl⟩) (e3 : codeIn K cdv "law" = true) .. : ∃ t, My.Txt K t

set_option maxRecDepth 100000 in
set_option maxHeartbeats 0 in
theorem PySem.Challenge.cw_LID_holds : PySem.Challenge.rw_LID.Holds := by
  w_on; o_law; k_head; (case hw => w_witness2)
  k_fill
  refine L2.walk_of (l := PySem.Challenge.rw_LID) (n := 63) (k := 40) (x := "script") (CX := fun w => ..) (sp := fun _ => My.sp_law) rfl (by decide) rfl ⟨rfl, by decide, by decide⟩ (fun w h Y => PySem.W.kIn_of Y) ?F ?S ?C
  case F =>
    intro w mg fa h KX G hmg
    have T : ∃ t, My.Txt (L2.KOf KX) t := by
      dsimp only [L2.KOf]                          -- K must stand as «<heap const> w.params» for k_is
      refine' My.txt_mk ?e1 ?e2 ?e3 ..
      (case e1 => PySem.W.k_is)                    -- in the order: a name -> its address -> its object -> its parts
      (case e2 => PySem.W.k_is)
      ..
    obtain ⟨t, T⟩ := T
    have e0 := hmg.symm.trans (PySem.W.mg_of KX G T.law)
    cases e0                                       -- fa is the law's own address
    exact ⟨_, fun s u => .of_eq rfl, fun base kb nb => My.law_fn T kb nb⟩     -- if «.of_eq rfl» comes too early: refine' ⟨_, ?b, fun base kb nb => My.law_fn T kb nb⟩; exact fun s u => .of_eq rfl
  case S => exact fun w H a ns hl hO hS => ..
  case C => exact ..
(the tactic k_is has no namespace: write k_is) -/
/-! SHORT WORDS over the layer: a def of the text, its body, what a loop and a test want. -/
namespace L2
open PySem PySem.Spec PyProof.Rows

/-! ### the text by places -/
def defArgs (s : Stmt) : Arguments := match s with
  | .FunctionDef _ a _ _ _ _ _ _ _ _ => a
  | _ => { posonlyargs := [], args := [], vararg := none, kwonlyargs := [], kw_defaults := [], kwarg := none, defaults := [] }
def defBody (s : Stmt) : List Stmt := match s with
  | .FunctionDef _ _ b _ _ _ _ _ _ _ => b
  | _ => []
def defScope (s : Stmt) : Scope := match s with
  | .FunctionDef _ _ _ _ _ _ sc _ _ _ => sc
  | _ => { kind := .function, names := [], isGenerator := false, isCoroutine := false }

/-! ### no exception leaves a def -/
abbrev CX0 : CXT := fun _ _ _ _ _ _ => False
abbrev E0 : XK := fun _ _ _ => False
theorem pass0 {X : Cx} : Passes CX0 X E0 := fun _ _ _ _ _ _ _ h => h.elim

/-! ### a def (or method) of the text as it stands behind the top -/
structure Fun (K : PySem.W.Frag) (x qual : Str) (st : Stmt) (f : Addr) (fd : FuncData) : Prop where
  ex : ∃ (oc : Value) (od : Option Addr) (kV doc pm : Value) (an : Option Addr) (cdv ct : Value) (osl : Array (Option Value)),
    fd = PySem.W.fnOf x qual (defArgs st) (defBody st) (defScope st) .none kV doc pm an cdv ct ∧ K.lookup f = some ⟨oc, od, .func fd, osl⟩ ∧ PySem.W.codeIn K cdv qual = true
  kp : PySem.W.keepIn K (.ref f) = true
section
variable {P : Program} {w : World} {K : PySem.W.Frag} {mg : Str → Option Value} {base : Heap}
/-- THE RULE for a def: its body as a term of rules, and the reading of that term -/
theorem Fun.ok {x qual : Str} {st : Stmt} {f : Addr} {fd : FuncData} {N ps : List Str} {k : Nat} {sp : Sp} (F : Fun K x qual st f fd) (S : FnScope N ps (defScope st)) (len : ∀ vs H Q E, sp vs H Q E → vs.length = ps.length)
    (hbody : ∀ (cdv : Value) (A : Around) (outer : List Env) (s : Shared) (H : Hp) (vs : List V) (Q : VK) (E : XK), Room k (A.deeper (envOfC qual (defScope st) s.heap.objs.size f cdv)) → sp vs H Q E →
      ∃ t, PSs (cxOf CX0 P w K mg base N qual (defScope st) f cdv A outer s H E).nox (defBody st) t ∧ t { nx := fun _ H' => Q .non H', rt := Q } (start N vs) H) : FnOk P w K mg base CX0 (k + 1) f fd ps sp := by
  obtain ⟨oc, od, kV, doc, pm, an, cdv, ct, osl, rfl, lk, hcd⟩ := F.ex
  refine fn_of lk hcd S len fun A outer s H vs Q E hr hsp => ?_
  obtain ⟨t, h, q⟩ := hbody cdv A outer s H vs Q E hr hsp
  exact ⟨t, h.nox, q⟩
/-- how its arguments bind (no defaults): h is «fun _ _ _ _ _ _ us hl => match us, hl with | [_, _], _ => rfl», one _ a parameter -/
theorem Fun.binds {x qual : Str} {st : Stmt} {f : Addr} {fd : FuncData} {ps : List Str} (F : Fun K x qual st f fd)
    (h : ∀ (kV doc pm : Value) (an : Option Addr) (cdv ct : Value) (us : List Value), us.length = ps.length → bindArgs (PySem.W.fnOf x qual (defArgs st) (defBody st) (defScope st) .none kV doc pm an cdv ct) ⟨us, []⟩ = pure (ps.zip us)) : Binds K fd ps [] := by
  obtain ⟨oc, od, kV, doc, pm, an, cdv, ct, osl, rfl, lk, hcd⟩ := F.ex
  exact .all (h kV doc pm an cdv ct)
theorem fun_mk {x qual : Str} {st : Stmt} {f : Addr} {oc : Value} {od an : Option Addr} {osl : Array (Option Value)} {kV doc pm cdv ct : Value} (l : K.lookup f = some ⟨oc, od, .func (PySem.W.fnOf x qual (defArgs st) (defBody st) (defScope st) .none kV doc pm an cdv ct), osl⟩)
    (c : PySem.W.codeIn K cdv qual = true) (k : PySem.W.keepIn K (.ref f) = true) : Fun K x qual st f (PySem.W.fnOf x qual (defArgs st) (defBody st) (defScope st) .none kV doc pm an cdv ct) := ⟨⟨oc, od, kV, doc, pm, an, cdv, ct, osl, rfl, l, c⟩, k⟩
end
theorem small1000 {n : Nat} (h : n ≤ 1000) : n < sizeLine := Nat.lt_of_le_of_lt h (by decide)

/-! ### expressions in short: the name that stands in the i-th slot -/
section
variable {X : Cx}
end

/-! ### tests -/
theorem iteF {A B : Prop} (h : B) : if false = true then A else B := by
  rw [if_neg Bool.false_ne_true]
  exact h
theorem iteT {A B : Prop} (h : A) : if true = true then A else B := by
  rw [if_pos rfl]
  exact h
/-! ### heaps -/
/-- all that was tracked is as it was -/
def Same (H H' : Hp) : Prop := ∀ b o, H b = some o → H' b = some o
theorem Same.refl (H : Hp) : Same H H := fun _ _ h => h
theorem Same.trans {H H1 H2 : Hp} (a : Same H H1) (b : Same H1 H2) : Same H H2 := fun c o h => b c o (a c o h)
theorem Same.free {H H' : Hp} (e : Same H H') {l : Addr} (h : H' l = Option.none) : H l = Option.none := by
  cases q : H l with
  | none => rfl
  | some o =>
    rw [e l o q] at h
    cases h
theorem Same.seq {K : PySem.W.Frag} {H H' : Hp} {a : Addr} {xs : List V} (e : Same H H') (h : SqL K H a xs) : SqL K H' a xs := by
  rcases h with (h | ⟨o, h⟩) | h
  · exact .inl (.inl (e _ _ h))
  · exact .inl (.inr ⟨o, e _ _ h⟩)
  · exact .inr h

end L2

set_option Elab.async false
set_option linter.all false
set_option maxRecDepth 100000
namespace L2
open PySem PySem.Spec PyProof.Rows

end L2

namespace L2
open PySem PySem.Spec PyProof.Rows

section
variable (P : Program) (w : World)
end

section
variable {P : Program} {w : World} {H H' : Hp} {h h' : Heap} {a : Addr} {o : HO}
end

section
variable {P : Program} {w : World} {H : Hp} {h h' : Heap} {x e : Addr} {o' : HO}
end

section
variable {fs fs' ex ex' : List Addr} {H H1 H2 : Hp} {h h1 h2 h' : Heap} {a x e : Addr} {o : HO}
end

end L2

namespace L2
open PySem PySem.Spec PyProof.Rows

section
variable {X : Cx} {pins : List (Addr × Obj)} {σ : List (Option V)} {H H' : Hp} {s : Shared} {h' : Heap}

end

end L2

namespace L2
open PySem PySem.Spec PyProof.Rows
section
variable {X : Cx}

variable {a b : Expr} {ta tb : TE} {pos : Pos}
variable {tA tB' : TT} {rest : List Expr}
end
end L2

namespace L2
open PySem PySem.Spec PyProof.Rows

section
variable {X : Cx} {pins : List (Addr × Obj)} {σ : St} {H : Hp} {s : Shared} {a : Addr} {xs ys : List V}
end

section
variable {X : Cx} {pins : List (Addr × Obj)} {σ : St} {H : Hp} {s : Shared} {E : Value → Shared → Prop}
end

section
variable {X : Cx} {st : Stmt} {rest : List Stmt} {t u : TS} {e : Expr} {te : TE} {pos : Pos}
end

section
variable {X : Cx} {pos : Pos}
end

section
variable {X : Cx} {pos : Pos}
end

end L2

namespace L2
open PySem PySem.Spec PyProof.Rows
section
variable {X : Cx} {tg : Expr}
end

end L2

namespace L2
open PySem PySem.Spec PyProof.Rows

section
variable {X : Cx} {a b c : Expr} {ta tb tc : TE} {pos : Pos}

end

section
variable {X : Cx} {a b c : Expr} {ta tb tc : TE} {pos : Pos}
end
end L2

namespace L2
open PySem PySem.Spec PyProof.Rows

section
variable {prog : Program} {w : World} {A : Around} {E : Value → Shared → Prop} {s : Shared} {K : PySem.W.Frag} {x dx C f : Addr} {mA : Str → Option Value} {name : Str} {v : Value}

end

section
variable {P : Program} {w : World} {H H' : Hp} {h h' : Heap} {a C dx : Addr} {fs fs' : List (Str × V)}
end

section
variable {X : Cx} {pins : List (Addr × Obj)} {σ : St} {H : Hp} {s : Shared} {a C dx : Addr} {fs : List (Str × V)} {f : Str} {v : V} {A : Around} {E : Value → Shared → Prop}

end

section
variable {X : Cx} {o e value : Expr} {f : Str} {pos pos' tpos : Pos} {ta tv : TE}
end

section
variable {X : Cx} {pins : List (Addr × Obj)} {σ : St} {H : Hp} {s : Shared} {A : Around} {E : Value → Shared → Prop} {Q : Value → Shared → Prop} {c : Value} {b : Bool}
end
end L2

namespace L2
open PySem PySem.Spec PyProof.Rows

section
variable {X : Cx} {e : Expr} {es : List Expr} {te : TE} {t : TA} {pos : Pos}
end

section
variable {X : Cx} {pins : List (Addr × Obj)} {σ : St} {H : Hp} {s s' : Shared}
end

section
variable {X : Cx} {CX : CXT} {k : Nat} {f C : Addr} {fd : FuncData} {ps : List Str} {sp : Sp} {dvs : List V} {ds : List Value} {E : XK} {x m : Str} {p pos apos : Pos} {e o : Expr} {es : List Expr} {ta : TE} {t : TA}

end

section
variable {X : Cx} {CX : CXT} {k : Nat} {f C : Addr} {fd : FuncData} {ps ks : List Str} {sp : Sp} {E : XK} {x m : Str} {p pos apos kpos : Pos} {e o : Expr} {es : List Expr} {kws : List Keyword} {te ta : TE} {t tk : TA} {nm : Option Str}
variable {g : List Value → List Value → List Value} {gV : List V → List V → List V}
end

end L2

namespace L2
open PySem PySem.Spec PyProof.Rows
section
variable {X : Cx} {x : Str} {p pos : Pos} {e : Expr} {es : List Expr} {t : TA} {id T : String} {r : List V → Hp → VK → Prop}

end
end L2

namespace L2
open PySem PySem.Spec PyProof.Rows

section
variable {κ : Type} [DecidableEq κ]
def valV (kvs : List (κ × V)) (k : κ) : Option V := (kvs.find? fun kv => decide (kv.1 = k)).map (·.2)
def putK (kvs : List (κ × V)) (k : κ) (v : V) : List (κ × V) :=
  if (kvs.any fun kv => decide (kv.1 = k)) = true then kvs.map (fun kv => if kv.1 = k then (kv.1, v) else kv) else kvs ++ [(k, v)]
def dropK (kvs : List (κ × V)) (k : κ) : List (κ × V) := kvs.filter fun kv => decide (kv.1 ≠ k)

theorem valV_pos {p : κ × V} {r : List (κ × V)} {k : κ} (e : p.1 = k) : valV (p :: r) k = some p.2 := by simp [valV, List.find?_cons, e]
theorem valV_neg {p : κ × V} {r : List (κ × V)} {k : κ} (e : ¬ p.1 = k) : valV (p :: r) k = valV r k := by simp [valV, List.find?_cons, e]
theorem valV_any (k : κ) : ∀ kvs : List (κ × V), (kvs.any fun kv => decide (kv.1 = k)) = (valV kvs k).isSome
  | [] => rfl
  | p :: r => by
    rw [List.any_cons]
    by_cases e : p.1 = k
    · simp only [valV_pos e, decide_eq_true e, Bool.true_or, Option.isSome_some]
    · rw [valV_neg e, decide_eq_false e, Bool.false_or]; exact valV_any k r
theorem valV_map (k j : κ) (y : V) : ∀ kvs : List (κ × V), valV (kvs.map fun kv => if kv.1 = k then (kv.1, y) else kv) j = (valV kvs j).map fun x => if j = k then y else x
  | [] => rfl
  | p :: r => by
    have ih := valV_map k j y r
    rw [List.map_cons]
    by_cases h : p.1 = k
    · rw [if_pos h]
      by_cases e : p.1 = j
      · rw [valV_pos (p := (p.1, y)) e, valV_pos e, Option.map_some, if_pos (e.symm.trans h)]
      · rw [valV_neg (p := (p.1, y)) e, valV_neg e, ih]
    · rw [if_neg h]
      by_cases e : p.1 = j
      · rw [valV_pos (p := p) e, valV_pos e, Option.map_some, if_neg (fun z => h (e.trans z))]
      · rw [valV_neg (p := p) e, valV_neg e, ih]
theorem valV_snoc (k j : κ) (y : V) : ∀ kvs : List (κ × V), valV kvs k = none → valV (kvs ++ [(k, y)]) j = if j = k then some y else valV kvs j
  | [], _ => by
    by_cases e : k = j
    · rw [if_pos e.symm]; exact valV_pos (p := (k, y)) e
    · rw [if_neg (fun z => e z.symm)]; exact valV_neg (p := (k, y)) e
  | p :: r, hn => by
    rw [List.cons_append]
    have hk : ¬ p.1 = k := fun z => by rw [valV_pos z] at hn; cases hn
    rw [valV_neg hk] at hn
    have ih := valV_snoc k j y r hn
    by_cases e : p.1 = j
    · rw [valV_pos e, valV_pos e, if_neg (fun z => hk (e.trans z))]
    · rw [valV_neg e, valV_neg e, ih]
theorem valV_put (kvs : List (κ × V)) (k j : κ) (y : V) : valV (putK kvs k y) j = if j = k then some y else valV kvs j := by
  unfold putK
  by_cases a : (kvs.any fun kv => decide (kv.1 = k)) = true
  · rw [if_pos a, valV_map]
    rw [valV_any] at a
    by_cases e : j = k
    · obtain ⟨x, hx⟩ := Option.isSome_iff_exists.mp a
      rw [if_pos e, e, hx, Option.map_some, if_pos rfl]
    · rw [if_neg e]
      cases valV kvs j with
      | none => rfl
      | some x => rw [Option.map_some, if_neg e]
  · rw [if_neg a]
    refine valV_snoc k j y kvs ?_
    rw [valV_any] at a
    cases q : valV kvs k with
    | none => rfl
    | some x => rw [q] at a; exact (a rfl).elim
theorem length_putK (kvs : List (κ × V)) (k : κ) (v : V) : (putK kvs k v).length ≤ kvs.length + 1 := by
  unfold putK
  split
  · rw [List.length_map]; omega
  · rw [List.length_append, List.length_cons, List.length_nil]; omega
theorem RelO.isSome_eq {o : Option V} {u : Option Value} (r : RelO o u) : o.isSome = u.isSome := by
  cases o with
  | none => cases u with
    | none => rfl
    | some _ => exact (show False from r).elim
  | some _ => cases u with
    | none => exact (show False from r).elim
    | some _ => rfl
theorem RelO.getD {o : Option V} {u : Option Value} {d : V} {d' : Value} (r : RelO o u) (rd : RelV d d') : RelV (o.getD d) (u.getD d') := by
  cases o with
  | none => cases u with
    | none => exact rd
    | some _ => exact (show False from r).elim
  | some _ => cases u with
    | none => exact (show False from r).elim
    | some _ => exact r

theorem KV.val {kvs : List (κ × V)} {vs : List (κ × Value)} (r : KV kvs vs) (k : κ) : RelO (valV kvs k) (valueAt vs k) := by
  unfold KV at r
  induction r with
  | nil => exact True.intro
  | @cons p q ps qs h t ih =>
    obtain ⟨h1, h2⟩ := h
    by_cases e : p.1 = k
    · have e' : q.1 = k := h1.symm.trans e
      have b : valueAt (q :: qs) k = some q.2 := by simp [valueAt, List.find?_cons, e']
      rw [valV_pos e, b]; exact h2
    · have e' : ¬ q.1 = k := fun z => e (h1.trans z)
      have b : valueAt (q :: qs) k = valueAt qs k := by simp [valueAt, List.find?_cons, e']
      rw [valV_neg e, b]; exact ih
theorem KV.any {kvs : List (κ × V)} {vs : List (κ × Value)} (r : KV kvs vs) (k : κ) : (kvs.any fun kv => decide (kv.1 = k)) = vs.any fun kv => decide (kv.1 = k) := by
  unfold KV at r
  induction r with
  | nil => rfl
  | cons h t ih => rw [List.any_cons, List.any_cons, ih, h.1]
theorem KV.repl {kvs : List (κ × V)} {vs : List (κ × Value)} (r : KV kvs vs) (k : κ) {y : V} {u : Value} (ry : RelV y u) :
    KV (kvs.map fun kv => if kv.1 = k then (kv.1, y) else kv) (vs.map fun kv => if kv.1 = k then (kv.1, u) else kv) := by
  unfold KV at r ⊢
  induction r with
  | nil => exact .nil
  | @cons p q ps qs h t ih =>
    rw [List.map_cons, List.map_cons]
    refine .cons ?_ ih
    obtain ⟨h1, h2⟩ := h
    by_cases e : p.1 = k
    · rw [if_pos e, if_pos (h1.symm.trans e)]; exact ⟨h1, ry⟩
    · rw [if_neg e, if_neg (fun z => e (h1.trans z))]; exact ⟨h1, h2⟩
theorem KV.put {kvs : List (κ × V)} {vs : List (κ × Value)} (r : KV kvs vs) (k : κ) {y : V} {u : Value} (ry : RelV y u) : KV (putK kvs k y) (stored vs k u) := by
  unfold putK stored
  rw [r.any k]
  by_cases e : (vs.any fun kv => decide (kv.1 = k)) = true
  · rw [if_pos e, if_pos e]; exact r.repl k ry
  · rw [if_neg e, if_neg e]; exact Paired.snoc r ⟨rfl, ry⟩
theorem KV.drop {kvs : List (κ × V)} {vs : List (κ × Value)} (r : KV kvs vs) (k : κ) : KV (dropK kvs k) (without vs k) := by
  unfold KV at r ⊢
  unfold dropK without
  induction r with
  | nil => exact .nil
  | @cons p q ps qs h t ih =>
    obtain ⟨h1, h2⟩ := h
    rw [List.filter_cons, List.filter_cons]
    by_cases e : p.1 = k
    · have a : ¬ decide (p.1 ≠ k) = true := by simp [e]
      have b : ¬ decide (q.1 ≠ k) = true := by simp [h1.symm.trans e]
      rw [if_neg a, if_neg b]; exact ih
    · have e' : ¬ q.1 = k := fun z => e (h1.trans z)
      have a : decide (p.1 ≠ k) = true := by simp [e]
      have b : decide (q.1 ≠ k) = true := by simp [e']
      rw [if_pos a, if_pos b]; exact .cons ⟨h1, h2⟩ ih
theorem KV.keys {kvs : List (κ × V)} {vs : List (κ × Value)} (r : KV kvs vs) : kvs.map (·.1) = vs.map (·.1) := by
  unfold KV at r
  induction r with
  | nil => rfl
  | cons h t ih => rw [List.map_cons, List.map_cons, ih, h.1]
theorem KV.length {kvs : List (κ × V)} {vs : List (κ × Value)} (r : KV kvs vs) : kvs.length = vs.length := Paired.length r
end


theorem kV_is {P : Program} {w : World} {k : Key} {u : Value} (r : RelV (kV k) u) : (mixKind P w).is k u = true := by
  cases k with
  | inl i => obtain ⟨t, e⟩ := (show ∃ t, u = Value.int i t from r); subst e; exact mixKind_int P w i t
  | inr x => obtain ⟨t, e⟩ := (show ∃ t, u = Value.str x t from r); subst e; exact mixKind_str P w x t
theorem kV_inj {a b : Key} (e : kV a = kV b) : a = b := by
  cases a with
  | inl i => cases b with
    | inl j => have e' : V.int i = V.int j := e; injection e' with e'; rw [e']
    | inr y => exact nomatch (show V.int i = V.str y from e)
  | inr x => cases b with
    | inl j => exact nomatch (show V.str x = V.int j from e)
    | inr y => have e' : V.str x = V.str y := e; injection e' with e'; rw [e']
theorem kVs_inj : ∀ {a b : List Key}, a.map kV = b.map kV → a = b
  | [], [], _ => rfl
  | [], _ :: _, e => by simp at e
  | _ :: _, [], e => by simp at e
  | x :: xs, y :: ys, e => by
    rw [List.map_cons, List.map_cons] at e
    injection e with e1 e2
    rw [kV_inj e1, kVs_inj e2]
theorem items_are {P : Program} {w : World} : ∀ {ks : List Key} {us : List Value}, Vals (ks.map kV) us → ItemsAre (mixKind P w) ks us
  | [], _, r => by rw [List.map_nil] at r; cases r; exact .nil
  | k :: ks, _, r => by
    rw [List.map_cons] at r
    cases r with
    | cons h t => exact .cons (kV_is h) (items_are t)

abbrev KT (H : Hp) : List (List Key × V) → List (List Key × Addr × Value) → Prop := Paired fun p q => p.1 = q.1 ∧ H q.2.1 = some (.tup (p.1.map kV)) ∧ RelV p.2 q.2.2
theorem KT.val {H : Hp} {kvs : List (List Key × V)} {xs : List (List Key × Addr × Value)} (r : KT H kvs xs) (k : List Key) : RelO (valV kvs k) ((atKey xs k).map (·.2)) := by
  induction r with
  | nil => exact True.intro
  | @cons p q ps qs h t ih =>
    obtain ⟨h1, _, h2⟩ := h
    by_cases e : p.1 = k
    · have e' : q.1 = k := h1.symm.trans e
      have b : atKey (q :: qs) k = some q.2 := by simp [atKey, List.find?_cons, e']
      rw [valV_pos e, b]; exact h2
    · have e' : ¬ q.1 = k := fun z => e (h1.trans z)
      have b : atKey (q :: qs) k = atKey qs k := by simp [atKey, List.find?_cons, e']
      rw [valV_neg e, b]; exact ih
theorem KT.repl {H : Hp} {kvs : List (List Key × V)} {xs : List (List Key × Addr × Value)} (r : KT H kvs xs) (k : List Key) {y : V} {u : Value} (ry : RelV y u) :
    KT H (kvs.map fun kv => if kv.1 = k then (kv.1, y) else kv) (xs.map (putAt k u)) := by
  induction r with
  | nil => exact .nil
  | @cons p q ps qs h t ih =>
    rw [List.map_cons, List.map_cons]
    refine .cons ?_ ih
    obtain ⟨h1, h2, h3⟩ := h
    unfold putAt
    by_cases e : p.1 = k
    · rw [if_pos e, if_pos (h1.symm.trans e)]; exact ⟨h1, h2, ry⟩
    · rw [if_neg e, if_neg (fun z => e (h1.trans z))]; exact ⟨h1, h2, h3⟩
theorem KT.put {H : Hp} {kvs : List (List Key × V)} {xs : List (List Key × Addr × Value)} (r : KT H kvs xs) (k : List Key) {b : Addr} {y : V} {u : Value} (hb : H b = some (.tup (k.map kV))) (ry : RelV y u) :
    KT H (putK kvs k y) (storedH xs k b u) := by
  have e : (kvs.any fun kv => decide (kv.1 = k)) = (atKey xs k).isSome := by
    rw [valV_any, (r.val k).isSome_eq, Option.isSome_map]
  unfold putK storedH
  rw [e]
  by_cases q : (atKey xs k).isSome = true
  · rw [if_pos q, if_pos q]; exact r.repl k ry
  · rw [if_neg q, if_neg q]; exact Paired.snoc r ⟨rfl, hb, ry⟩
theorem KT.keeps {H H' : Hp} {kvs : List (List Key × V)} {xs : List (List Key × Addr × Value)} (r : KT H kvs xs) (ht : ∀ b ys, H b = some (.tup ys) → H' b = some (.tup ys)) : KT H' kvs xs :=
  Paired.mapP r fun _ _ z => ⟨z.1, ht _ _ z.2.1, z.2.2⟩

section
variable {P : Program} {w : World} {H : Hp} {h : Heap} {a : Addr}
theorem rd_of {u : HO} (ok : HOk P w H h) (e : Rd H a u) : ObjOk P w H h a u := e.ok ok
theorem dk_rd {kvs : List (Key × V)} (ok : HOk P w H h) (e : Rd H a (.dK kvs)) : kvs.length ≤ sizeLine ∧ (a == sysModules) = false ∧ ∃ vs, KV kvs vs ∧ h.DictOf (mixKind P w) a vs :=
  show ObjOk P w H h a (.dK kvs) from rd_of ok e
theorem dk_of {kvs : List (Key × V)} (ok : HOk P w H h) (e : H a = some (.dK kvs)) : kvs.length ≤ sizeLine ∧ (a == sysModules) = false ∧ ∃ vs, KV kvs vs ∧ h.DictOf (mixKind P w) a vs := dk_rd ok (.inl e)
theorem key_of {ks : List Key} (ok : HOk P w H h) (e : H a = some (.tup (ks.map kV))) : (tupleKind (mixKind P w)).is h ks a := by
  obtain ⟨_, its, r, o, h1, h2, n, h3⟩ := (show ObjOk P w H h a (.tup (ks.map kV)) from ok a _ e)
  exact ⟨o, its.toArray, n, h1, h2, h3, by simpa using items_are r⟩
theorem dt_rd {kvs : List (List Key × V)} (ok : HOk P w H h) (e : Rd H a (.dT kvs)) : kvs.length ≤ sizeLine ∧ (a == sysModules) = false ∧
    ∃ xs, KT H kvs xs ∧ h.DictOfH (tupleKind (mixKind P w)) a xs := by
  obtain ⟨z, y, xs, r, o, es, ep, h1, h2, h3, h4, h5⟩ := (show ObjOk P w H h a (.dT kvs) from rd_of ok e)
  refine ⟨z, y, xs, r, o, es, ep, h1, h2, h3, h4, fun x hx => ?_, h5⟩
  have all : ∀ {l : List (List Key × V)} {m : List (List Key × Addr × Value)}, KT H l m → ∀ x ∈ m, (tupleKind (mixKind P w)).is h x.1 x.2.1 := by
    intro l m q
    induction q with
    | nil => intro x hx; exact nomatch hx
    | @cons p q ps qs hq t ih =>
      intro x hx
      rcases List.mem_cons.mp hx with e | hx
      · subst e
        exact key_of ok (by rw [← hq.1]; exact hq.2.1)
      · exact ih x hx
  exact all r x hx
theorem dt_of {kvs : List (List Key × V)} (ok : HOk P w H h) (e : H a = some (.dT kvs)) : kvs.length ≤ sizeLine ∧ (a == sysModules) = false ∧
    ∃ xs, KT H kvs xs ∧ h.DictOfH (tupleKind (mixKind P w)) a xs := dt_rd ok (.inl e)
end

def DGet (H : Hp) (a : Addr) (y : V) (r : Option V) : Prop :=
  (∃ kvs k, Rd H a (.dK kvs) ∧ y = kV k ∧ r = valV kvs k) ∨ ∃ kvs k b, Rd H a (.dT kvs) ∧ y = .ref b ∧ H b = some (.tup (k.map kV)) ∧ r = valV kvs k
def DPut (H : Hp) (a : Addr) (y v : V) (H' : Hp) : Prop :=
  (∃ kvs k, H a = some (.dK kvs) ∧ y = kV k ∧ kvs.length < sizeLine ∧ H' = upd H a (.dK (putK kvs k v))) ∨
  ∃ kvs k b, H a = some (.dT kvs) ∧ y = .ref b ∧ H b = some (.tup (k.map kV)) ∧ kvs.length < sizeLine ∧ H' = upd H a (.dT (putK kvs k v))
theorem DGet.k {H : Hp} {a : Addr} {kvs : List (Key × V)} {k : Key} (e : H a = some (.dK kvs)) : DGet H a (kV k) (valV kvs k) := .inl ⟨kvs, k, .inl e, rfl, rfl⟩
theorem DGet.t {H : Hp} {a b : Addr} {kvs : List (List Key × V)} {k : List Key} (e : H a = some (.dT kvs)) (eb : H b = some (.tup (k.map kV))) : DGet H a (.ref b) (valV kvs k) := .inr ⟨kvs, k, b, .inl e, rfl, eb, rfl⟩
theorem DPut.k {H : Hp} {a : Addr} {kvs : List (Key × V)} {k : Key} {v : V} (e : H a = some (.dK kvs)) (hl : kvs.length < sizeLine) : DPut H a (kV k) v (upd H a (.dK (putK kvs k v))) := .inl ⟨kvs, k, e, rfl, hl, rfl⟩
theorem DPut.t {H : Hp} {a b : Addr} {kvs : List (List Key × V)} {k : List Key} {v : V} (e : H a = some (.dT kvs)) (eb : H b = some (.tup (k.map kV))) (hl : kvs.length < sizeLine) :
    DPut H a (.ref b) v (upd H a (.dT (putK kvs k v))) := .inr ⟨kvs, k, b, e, rfl, eb, hl, rfl⟩


section
variable {X : Cx} {pins : List (Addr × Obj)} {σ : St} {H : Hp} {s : Shared} {a : Addr} {y v : V} {u r : Value} {o : Option V} {A : Around} {E : Value → Shared → Prop}

theorem Inv.big (I : Inv X pins σ H s) : sysModules < s.heap.objs.size := by
  have h : mainGlobals < s.heap.objs.size := (I.mod.glob.keeps I.bk).lt
  exact Nat.lt_trans (by decide) h

theorem d_in {Q : Value → Shared → Prop} (hu : A.units + 1 < cLine) (I : Inv X pins σ H s) (g : DGet H a y o) (ry : RelV y u) (h : ∀ s', Inv X pins σ H s' → Q (.bool o.isSome) s') :
    wpAny (model X.prog X.w) A (compareOp .In u (.ref a)) Q E s := by
  rcases g with ⟨kvs, k, e, ey, l⟩ | ⟨kvs, k, b, e, ey, eb, l⟩
  · subst ey
    obtain ⟨z, hd, vs, rel, dd⟩ := dk_rd I.hok e
    refine wpAny_in_of (kV_is ry) hd dd.mapOf ?_
    rw [← (rel.val k).isSome_eq, ← l]
    exact h _ (I.tok _)
  · subst ey
    cases (show u = Value.ref b from ry)
    obtain ⟨z, hd, xs, rel, dd⟩ := dt_rd I.hok e
    refine wpAny_in_heap (tupleKind_room_in1 hu) (key_of I.hok eb) hd dd ?_
    have q := (rel.val k).isSome_eq
    rw [Option.isSome_map] at q
    rw [← q, ← l]
    exact h _ (I.tok _)
theorem d_notIn {Q : Value → Shared → Prop} (hu : A.units + 1 < cLine) (I : Inv X pins σ H s) (g : DGet H a y o) (ry : RelV y u) (h : ∀ s', Inv X pins σ H s' → Q (.bool (!o.isSome)) s') :
    wpAny (model X.prog X.w) A (compareOp .NotIn u (.ref a)) Q E s := by
  rcases g with ⟨kvs, k, e, ey, l⟩ | ⟨kvs, k, b, e, ey, eb, l⟩
  · subst ey
    obtain ⟨z, hd, vs, rel, dd⟩ := dk_rd I.hok e
    refine wpAny_notIn_of (kV_is ry) hd dd.mapOf ?_
    rw [← (rel.val k).isSome_eq, ← l]
    exact h _ (I.tok _)
  · subst ey
    cases (show u = Value.ref b from ry)
    obtain ⟨z, hd, xs, rel, dd⟩ := dt_rd I.hok e
    refine wpAny_notIn_heap (tupleKind_room_in1 hu) (key_of I.hok eb) hd dd ?_
    have q := (rel.val k).isSome_eq
    rw [Option.isSome_map] at q
    rw [← q, ← l]
    exact h _ (I.tok _)
theorem d_write {h' : Heap} {t' : Nat} {ob : HO} (I : Inv X pins σ H s) (mu : Mut (H a)) (hs : Heap.SameBut a s.heap h') (he : ∃ q, h'.get? a = some q) (new : ObjOk X.prog X.w (upd H a ob) h' a ob) :
    Inv X pins σ (upd H a ob) { s with heap := h', toks := t' } :=
  I.write (x := a) (e := a) mu (.inl rfl) (fun b q hb z => (hs.2 b hb).trans z) he new
theorem dk_new {P : Program} {w : World} {H' : Hp} {h' : Heap} {kvs : List (Key × V)} {vs : List (Key × Value)} (z : kvs.length ≤ sizeLine) (hd : (a == sysModules) = false) (rel : KV kvs vs) (dd : h'.DictOf (mixKind P w) a vs) :
    ObjOk P w H' h' a (.dK kvs) := ⟨z, hd, vs, rel, dd⟩
theorem d_setItem {H' : Hp} {Q : Unit → Shared → Prop} (hu : A.units + 1 < cLine) (I : Inv X pins σ H s) (g : DPut H a y v H') (ry : RelV y u) (rv : RelV v r) (h : ∀ s', Inv X pins σ H' s' → Q () s') :
    wpAny (model X.prog X.w) A (setItem (.ref a) u r) Q E s := by
  rcases g with ⟨kvs, k, e, ey, l, eH⟩ | ⟨kvs, k, b, e, ey, eb, l, eH⟩
  · subst ey eH
    obtain ⟨z, hd, vs, rel, dd⟩ := dk_of I.hok e
    have hz : vs.length ≤ sizeLine := by rw [← rel.length]; exact z
    have hl : (putK kvs k v).length ≤ sizeLine := by have := length_putK kvs k v; omega
    refine wpAny_setItem_pairs (hsz := hz) (kV_is ry) dd fun h' dd' hs => h _ ?_
    have he : ∃ q, h'.get? a = some q := let ⟨q, _, _, hq, _⟩ := dd'; ⟨q, hq⟩
    exact d_write I (by rw [e]; exact True.intro) hs he (dk_new hl hd (rel.put k rv) dd')
  · subst ey eH
    cases (show u = Value.ref b from ry)
    obtain ⟨z, hd, xs, rel, dd⟩ := dt_of I.hok e
    have hz : xs.length ≤ sizeLine := by rw [← Paired.length rel]; exact z
    have hl : (putK kvs k v).length ≤ sizeLine := by have := length_putK kvs k v; omega
    refine wpAny_setItem_heap (hsz := hz) (tupleKind_room_in1 hu) (key_of I.hok eb) dd fun h' dd' hs => h _ ?_
    obtain ⟨q, es, ep, hq, h2, h3, h4, _, h5⟩ := dd'
    refine d_write I (by rw [e]; exact True.intro) hs ⟨q, hq⟩ ⟨hl, hd, _, (rel.put k eb rv).keeps fun c ys ec => ?_, q, es, ep, hq, h2, h3, h4, h5⟩
    rw [upd_ne (ne_of ec e (fun z => nomatch z))]
    exact ec
end

section
variable {X : Cx} {pins : List (Addr × Obj)} {σ : St} {H : Hp} {s : Shared} {a : Addr} {kvs : List (Key × V)} {k : Key} {u : Value} {A : Around} {E : Value → Shared → Prop}
end


def NoSl (i : Expr) : Prop := ∀ ov iv, subscripted i false ov iv = operate [ov, iv] (getItem ov iv)
theorem subD_of {prog : Program} {w : World} {A : Around} {E : Value → Shared → Prop} {s : Shared} {env : Env} {value slice : Expr} {pos : Pos} {T id : String} {Q : Value → Shared → Prop}
    (hl : typeLookup (.type T) "__getitem__" = pure (some (.builtin id))) (hs : NoSl slice)
    (h : wpAny (model prog w) A (eval value env) (fun o s₁ => wpAny (model prog w) A (eval slice env) (fun i s₂ => s₂.TypeIs o T ∧ wpAny (model prog w) A (getItem o i) Q E s₂) E s₁) E s) :
    wpAny (model prog w) A (eval (.Subscript value slice pos) env) Q E s := by
  refine Subscript_ (wpAny_mono h (fun o s₁ h₁ => wpAny_mono h₁ (fun i s₂ h₂ => ?_) fun _ _ x => x) fun _ _ x => x)
  obtain ⟨hT, h₂⟩ := h₂
  unfold subscriptTail
  refine wpAny_bind ?_
  rw [getitemInPython_of_ne hT.not_modules]
  refine wpAny_bind (wpAny_specialOf hT hl ?_)
  have fin : wpAny (model prog w) A (subscripted slice false o i) (fun r s₃ => wpAny (model prog w) A (letTemporaryGo value o r >>= fun _ => pure r) Q E s₃) E s₂ := by
    rw [hs o i]
    exact wpAny_operating (wpAny_mono h₂ (fun r s₃ h₃ => wpAny_bind (wpAny_letTemporaryGo (wpAny_pure h₃))) fun _ _ x => x)
  first
    | exact wpAny_pure (wpAny_bind fin)
    | exact wpAny_bind (wpAny_pure (wpAny_bind fin))
    | exact wpAny_bind fin

def tDIn (ty td : TE) : TE := fun σ H Q => ty σ H fun y H1 => td σ H1 fun x H2 => ∃ a o, x = .ref a ∧ DGet H2 a y o ∧ Q (.bl o.isSome) H2
def tDNotIn (ty td : TE) : TE := fun σ H Q => ty σ H fun y H1 => td σ H1 fun x H2 => ∃ a o, x = .ref a ∧ DGet H2 a y o ∧ Q (.bl (!o.isSome)) H2
def sDPut (td ty tv : TE) : TS := fun D σ H => tv σ H fun v H1 => td σ H1 fun x H2 => ty σ H2 fun y H3 => ∃ a H4, x = .ref a ∧ DPut H3 a y v H4 ∧ D.nx σ H4
section
variable {X : Cx} {o i e value : Expr} {pos pos' tpos : Pos} {td ty tv : TE}
theorem pc_din (hu : X.A.units + 1 < cLine) (hi : PE X i ty) (ho : PE X o td) : PC X .In i o (tDIn ty td) := by
  intro pins s σ H Q I h
  refine thn (hi pins s σ H _ I h) fun iv s1 ⟨y, H1, I1, ry, q1⟩ => thn (ho pins s1 σ H1 _ I1 q1) fun u s2 ⟨x, H2, I2, rx, a, ov, ex, g, q2⟩ => ?_
  subst ex
  obtain rfl : u = Value.ref a := rx
  exact d_in hu I2 g ry fun s3 I3 => ⟨.bl ov.isSome, H2, I3, rfl, q2⟩
theorem pc_dnotin (hu : X.A.units + 1 < cLine) (hi : PE X i ty) (ho : PE X o td) : PC X .NotIn i o (tDNotIn ty td) := by
  intro pins s σ H Q I h
  refine thn (hi pins s σ H _ I h) fun iv s1 ⟨y, H1, I1, ry, q1⟩ => thn (ho pins s1 σ H1 _ I1 q1) fun u s2 ⟨x, H2, I2, rx, a, ov, ex, g, q2⟩ => ?_
  subst ex
  obtain rfl : u = Value.ref a := rx
  exact d_notIn hu I2 g ry fun s3 I3 => ⟨.bl (!ov.isSome), H2, I3, rfl, q2⟩
theorem ps_dput (hu : X.A.units + 1 < cLine) (ho : PE X o td) (hi : PE X i ty) (hv : PE X value tv) (hs : swapsWith value (some (.Subscript o i pos')) pos.line X.env = pure false) :
    PS X (.Assign [.Subscript o i pos'] value pos) (sDPut td ty tv) := by
  intro pins s σ H D I h
  refine wpAny_Assign_Subscript (thn (hv pins s σ H _ I h) fun r s1 ⟨v, H1, I1, rv, q1⟩ => thn (ho pins s1 σ H1 _ I1 q1) fun u s2 ⟨x, H2, I2, rx, q2⟩ => thn (hi pins s2 σ H2 _ I2 q2) fun iv s3 ⟨y, H3, I3, ry, a, H4, ex, g, q3⟩ => ?_) hs
  subst ex
  obtain rfl : u = Value.ref a := rx
  exact d_setItem hu I3 g ry rv fun s4 I4 => ⟨σ, H4, I4, q3⟩
end


theorem dk_empty {P : Program} {w : World} {H : Hp} (h : Heap) (hb : sysModules < h.objs.size) : ObjOk P w H (h.push { cls := .type "dict", data := .dict #[] }) h.objs.size (.dK []) :=
  ⟨Nat.zero_le _, beq_eq_false_iff_ne.mpr (Ne.symm (Nat.ne_of_lt hb)), [], .nil, Heap.DictOf.new h⟩
theorem dt_empty {P : Program} {w : World} {H : Hp} (h : Heap) (hb : sysModules < h.objs.size) : ObjOk P w H (h.push { cls := .type "dict", data := .dict #[] }) h.objs.size (.dT []) :=
  ⟨Nat.zero_le _, beq_eq_false_iff_ne.mpr (Ne.symm (Nat.ne_of_lt hb)), [], .nil, _, #[], 0, Heap.get?_push_size _ rfl, ⟨rfl, rfl, rfl⟩, rfl, rfl, List.nodup_nil⟩
def tDNewK : TE := fun _ H Q => ∀ p, H p = none → Q (.ref p) (upd H p (.dK []))
def tDNewT : TE := fun _ H Q => ∀ p, H p = none → Q (.ref p) (upd H p (.dT []))
section
variable {X : Cx} {pos : Pos}
theorem pe_dnewK : PE X (.Dict [] [] pos) tDNewK := fun pins s σ H Q I h =>
  wpAny_Dict_empty ⟨.ref s.heap.objs.size, _, I.laid (a := s.heap.objs.size) (o := .dK []) (t' := s.toks) (fun _ _ q => Heap.get?_push_of_some _ q) (Nat.le_refl _) (dk_empty s.heap I.big), rfl, h _ (I.hok.fresh (Nat.le_refl _))⟩
theorem pe_dnewT : PE X (.Dict [] [] pos) tDNewT := fun pins s σ H Q I h =>
  wpAny_Dict_empty ⟨.ref s.heap.objs.size, _, I.laid (a := s.heap.objs.size) (o := .dT []) (t' := s.toks) (fun _ _ q => Heap.get?_push_of_some _ q) (Nat.le_refl _) (dt_empty s.heap I.big), rfl, h _ (I.hok.fresh (Nat.le_refl _))⟩
end

structure M1 (X : Cx) (o : Expr) (m : Str) (apos : Pos) (e : Expr) (cpos : Pos) : Prop where
  base : attributeBase o m X.env (eval o X.env) = eval o X.env
  few : ((backTo cpos (starEach [e] X.env)).all (fun x => !x.1) && (backToKw cpos (keywordEach [] X.env)).all (fun x => x.1.isSome)
    && decide (([e] : List Expr).length + ([] : List Keyword).length + (if ([] : List Keyword).isEmpty then 0 else 1) < 30)) = true
  line : (apos.endLine == cpos.line) = true
  trees : backTo cpos (starEach [e] X.env) = [(false, eval e X.env)]
structure M2 (X : Cx) (o : Expr) (m : Str) (apos : Pos) (e f : Expr) (cpos : Pos) : Prop where
  base : attributeBase o m X.env (eval o X.env) = eval o X.env
  few : ((backTo cpos (starEach [e, f] X.env)).all (fun x => !x.1) && (backToKw cpos (keywordEach [] X.env)).all (fun x => x.1.isSome)
    && decide (([e, f] : List Expr).length + ([] : List Keyword).length + (if ([] : List Keyword).isEmpty then 0 else 1) < 30)) = true
  line : (apos.endLine == cpos.line) = true
  trees : backTo cpos (starEach [e, f] X.env) = [(false, eval e X.env), (false, eval f X.env)]

section
variable {X : Cx} {pins : List (Addr × Obj)} {σ : St} {H : Hp} {s : Shared} {a : Addr} {y d : V} {u r : Value} {o : Option V} {A : Around} {E : Value → Shared → Prop}
end

section
variable {X : Cx} {o e f : Expr} {apos cpos : Pos} {td ty tx : TE}
end

section
variable {X : Cx} {pins : List (Addr × Obj)} {σ : St} {H : Hp} {s : Shared} {a : Addr} {kvs : List (Key × V)} {A : Around} {E : Value → Shared → Prop}
end


section
variable {X : Cx} {pins : List (Addr × Obj)} {σ : St} {H : Hp} {s : Shared} {a : Addr} {y : V} {u : Value} {A : Around} {E : Value → Shared → Prop}
end
end L2

namespace Att
open PySem PySem.W PySem.Calls PyProof.Rows

section
variable {prog : Program} {w : World} {A : Around} {E : Value → Shared → Prop} {s : Shared} {K : Frag}

end
end Att

namespace L2
open PySem PySem.Spec PyProof.Rows

end L2

namespace L2
open PySem PySem.Spec PyProof.Rows

end L2

namespace L2
open PySem PySem.Spec PyProof.Rows

section
variable {P : Program} {w : World} {K : PySem.W.Frag} {mg : Str → Option Value} {base : Heap}
end
section
variable {X : Cx}
end

section
variable {κ : Type} [DecidableEq κ]
end
end L2
set_option Elab.async false
set_option linter.all false
set_option maxRecDepth 100000
/-! == of a dict and something else -/
namespace Y.DEq
open PySem PySem.SeqAt PySem.MeetsSeq PySem.AutoSeq1
abbrev dob (dd : Option Addr) (es : Array DictEntry) (n : Nat) (sl : Array (Option Value)) : Obj := ⟨.type "dict", dd, .dict es n, sl⟩
abbrev lob (T : String) (dd : Option Addr) (xs : Array Value) (n : Nat) (sl : Array (Option Value)) : Obj := ⟨.type T, dd, .seq xs n, sl⟩
section
variable (l b : Addr) (es : Array DictEntry) (xs : Array Value) (n m : Nat) (dd de : Option Addr) (sl sm : Array (Option Value)) (q : Bool) (i : Int) (z : Str) (t : Tok)
theorem dict_none : Meets (Builtin.«dict.__eq__» ⟨[.ref l, .none], []⟩) (fun _ R s => s.heap.get? l = some (dob dd es n sl) ∧ R (.ok (.ret .notImplemented)) s) :=
  .of_wp fun prog w A R s h => by
    obtain ⟨hp, g, d, tk, os⟩ := s
    obtain ⟨hl, h⟩ := h
    have f1 := F.sub_NoneType_dict
    wp_walk using wpAny_loadPart' hl
    exact ⟨_, rfl, h⟩
theorem dict_bool : Meets (Builtin.«dict.__eq__» ⟨[.ref l, .bool q], []⟩) (fun _ R s => s.heap.get? l = some (dob dd es n sl) ∧ R (.ok (.ret .notImplemented)) s) :=
  .of_wp fun prog w A R s h => by
    obtain ⟨hp, g, d, tk, os⟩ := s
    obtain ⟨hl, h⟩ := h
    have f1 := F.sub_bool_dict
    wp_walk using wpAny_loadPart' hl
    exact ⟨_, rfl, h⟩
theorem dict_int : Meets (Builtin.«dict.__eq__» ⟨[.ref l, .int i t], []⟩) (fun _ R s => s.heap.get? l = some (dob dd es n sl) ∧ R (.ok (.ret .notImplemented)) s) :=
  .of_wp fun prog w A R s h => by
    obtain ⟨hp, g, d, tk, os⟩ := s
    obtain ⟨hl, h⟩ := h
    have f1 := F.sub_int_dict
    wp_walk using wpAny_loadPart' hl
    exact ⟨_, rfl, h⟩
theorem dict_str : Meets (Builtin.«dict.__eq__» ⟨[.ref l, .str z t], []⟩) (fun _ R s => s.heap.get? l = some (dob dd es n sl) ∧ R (.ok (.ret .notImplemented)) s) :=
  .of_wp fun prog w A R s h => by
    obtain ⟨hp, g, d, tk, os⟩ := s
    obtain ⟨hl, h⟩ := h
    have f1 := F.sub_str_dict
    wp_walk using wpAny_loadPart' hl
    exact ⟨_, rfl, h⟩
theorem dict_list : Meets (Builtin.«dict.__eq__» ⟨[.ref l, .ref b], []⟩) (fun _ R s => s.heap.get? l = some (dob dd es n sl) ∧ s.heap.get? b = some (lob "list" de xs m sm) ∧ R (.ok (.ret .notImplemented)) s) :=
  .of_wp fun prog w A R s h => by
    obtain ⟨hp, g, d, tk, os⟩ := s
    obtain ⟨hl, hb, h⟩ := h
    have f1 := F.sub_list_dict
    wp_walk using wpAny_loadPart' hl, wpAny_loadPart' hb
    exact ⟨_, rfl, h⟩
theorem list_dict : Meets (Builtin.«list.__eq__» ⟨[.ref b, .ref l], []⟩) (fun _ R s => s.heap.get? l = some (dob dd es n sl) ∧ s.heap.get? b = some (lob "list" de xs m sm) ∧ R (.ok (.ret .notImplemented)) s) :=
  .of_wp fun prog w A R s h => by
    obtain ⟨hp, g, d, tk, os⟩ := s
    obtain ⟨hl, hb, h⟩ := h
    have f1 := F.sub_dict_list
    wp_walk using wpAny_loadPart' hl, wpAny_loadPart' hb
    exact ⟨_, rfl, h⟩
theorem dict_tuple : Meets (Builtin.«dict.__eq__» ⟨[.ref l, .ref b], []⟩) (fun _ R s => s.heap.get? l = some (dob dd es n sl) ∧ s.heap.get? b = some (lob "tuple" de xs m sm) ∧ R (.ok (.ret .notImplemented)) s) :=
  .of_wp fun prog w A R s h => by
    obtain ⟨hp, g, d, tk, os⟩ := s
    obtain ⟨hl, hb, h⟩ := h
    have f1 := F.sub_tuple_dict
    wp_walk using wpAny_loadPart' hl, wpAny_loadPart' hb
    exact ⟨_, rfl, h⟩
theorem tuple_dict : Meets (Builtin.«tuple.__eq__» ⟨[.ref b, .ref l], []⟩) (fun _ R s => s.heap.get? l = some (dob dd es n sl) ∧ s.heap.get? b = some (lob "tuple" de xs m sm) ∧ R (.ok (.ret .notImplemented)) s) :=
  .of_wp fun prog w A R s h => by
    obtain ⟨hp, g, d, tk, os⟩ := s
    obtain ⟨hl, hb, h⟩ := h
    have f1 := F.sub_dict_tuple
    wp_walk using wpAny_loadPart' hl, wpAny_loadPart' hb
    exact ⟨_, rfl, h⟩
theorem bool_dict : Meets (Builtin.«int.__eq__» ⟨[.bool q, .ref l], []⟩) (fun _ R s => s.heap.get? l = some (dob dd es n sl) ∧ R (.ok (.ret .notImplemented)) s) :=
  .of_wp fun prog w A R s h => by
    obtain ⟨hp, g, d, tk, os⟩ := s
    obtain ⟨hl, h⟩ := h
    wp_walk using wpAny_loadPart' hl, wpAny_load hl
    exact ⟨_, rfl, h⟩
theorem int_dict : Meets (Builtin.«int.__eq__» ⟨[.int i t, .ref l], []⟩) (fun _ R s => s.heap.get? l = some (dob dd es n sl) ∧ R (.ok (.ret .notImplemented)) s) :=
  .of_wp fun prog w A R s h => by
    obtain ⟨hp, g, d, tk, os⟩ := s
    obtain ⟨hl, h⟩ := h
    wp_walk using wpAny_loadPart' hl, wpAny_load hl
    exact ⟨_, rfl, h⟩
theorem str_dict : Meets (Builtin.«str.__eq__» ⟨[.str z t, .ref l], []⟩) (fun _ R s => s.heap.get? l = some (dob dd es n sl) ∧ R (.ok (.ret .notImplemented)) s) :=
  .of_wp fun prog w A R s h => by
    obtain ⟨hp, g, d, tk, os⟩ := s
    obtain ⟨hl, h⟩ := h
    wp_walk using wpAny_loadPart' hl, wpAny_load hl
    exact ⟨_, rfl, h⟩
end
def IsDct (h : Heap) (a : Addr) : Prop := ∃ dd es n sl, h.get? a = some (dob dd es n sl)
section
variable {A : Around} {s : Shared} {l b : Addr}
theorem rc_none  (hl : IsDct s.heap l) (hu : A.units < cLine) : RcAt A s (.none) (.ref l) false := fun prog w E Q h => by
  obtain ⟨dd, es, n, sl, ho⟩ := hl
  refine rc_eq_decline_or (k := false) (Ta := "NoneType") (rfl) ⟨_, ho, rfl⟩ (by decide) F.sub_dict_NoneType F.slot_NoneType_eq F.slot_dict_eq_refl (fun _ hq => ?_) (fun _ hq => ?_) (fun _ hq => wpAny_of_eq (rfl : isSame (.none) (.ref l) = pure false) hq) (.inr hu) h
  · exact call_gives F.slot_NoneType_eq rfl F.entry_NoneType_eq (F.args_NoneType_eq_2 _ _) (NoneType___eq___none_ref_0 l) hq
  · exact call_meets F.slot_dict_eq_refl ⟨_, ho, rfl⟩ F.entry_dict_eq (F.args_dict_eq_2 _ _) (dict_none l es n dd sl) ⟨ho, hq⟩
theorem at_none  (hl : IsDct s.heap l) (hu : A.units < cLine) : EqAt A s (.none) (.ref l) false := fun prog w E Q h => by
  unfold eqBool
  refine wpAny_holding (wpAny_ite_split (fun hab => absurd (eq_of_beq hab) nofun) fun _ => ?_)
  exact wpAny_bind (rc_none  hl hu prog w E _ (wpAny_truthy_bool h))
theorem rc_bool (q : Bool) (hl : IsDct s.heap l) (hu : A.units < cLine) : RcAt A s (.bool q) (.ref l) false := fun prog w E Q h => by
  obtain ⟨dd, es, n, sl, ho⟩ := hl
  refine rc_eq_decline_or (k := false) (Ta := "bool") (rfl) ⟨_, ho, rfl⟩ (by decide) F.sub_dict_bool F.slot_bool_eq F.slot_dict_eq_refl (fun _ hq => ?_) (fun _ hq => ?_) (fun _ hq => wpAny_of_eq (rfl : isSame (.bool q) (.ref l) = pure false) hq) (.inr hu) h
  · exact call_meets F.slot_bool_eq rfl F.entry_int_eq (F.args_int_eq_2 _ _) (bool_dict l es n dd sl q) ⟨ho, hq⟩
  · exact call_meets F.slot_dict_eq_refl ⟨_, ho, rfl⟩ F.entry_dict_eq (F.args_dict_eq_2 _ _) (dict_bool l es n dd sl q) ⟨ho, hq⟩
theorem at_bool (q : Bool) (hl : IsDct s.heap l) (hu : A.units < cLine) : EqAt A s (.bool q) (.ref l) false := fun prog w E Q h => by
  unfold eqBool
  refine wpAny_holding (wpAny_ite_split (fun hab => absurd (eq_of_beq hab) nofun) fun _ => ?_)
  exact wpAny_bind (rc_bool q hl hu prog w E _ (wpAny_truthy_bool h))
theorem rc_int (i : Int) (t : Tok) (hl : IsDct s.heap l) (hu : A.units < cLine) : RcAt A s (.int i t) (.ref l) false := fun prog w E Q h => by
  obtain ⟨dd, es, n, sl, ho⟩ := hl
  refine rc_eq_decline_or (k := false) (Ta := "int") (typeIs_int s i t) ⟨_, ho, rfl⟩ (by decide) F.sub_dict_int F.slot_int_eq F.slot_dict_eq_refl (fun _ hq => ?_) (fun _ hq => ?_) (fun _ hq => wpAny_of_eq (rfl : isSame (.int i t) (.ref l) = pure false) hq) (.inr hu) h
  · exact call_meets F.slot_int_eq (typeIs_int s i t) F.entry_int_eq (F.args_int_eq_2 _ _) (int_dict l es n dd sl i t) ⟨ho, hq⟩
  · exact call_meets F.slot_dict_eq_refl ⟨_, ho, rfl⟩ F.entry_dict_eq (F.args_dict_eq_2 _ _) (dict_int l es n dd sl i t) ⟨ho, hq⟩
theorem at_int (i : Int) (t : Tok) (hl : IsDct s.heap l) (hu : A.units < cLine) : EqAt A s (.int i t) (.ref l) false := fun prog w E Q h => by
  unfold eqBool
  refine wpAny_holding (wpAny_ite_split (fun hab => absurd (eq_of_beq hab) nofun) fun _ => ?_)
  exact wpAny_bind (rc_int i t hl hu prog w E _ (wpAny_truthy_bool h))
theorem rc_str (z : Str) (t : Tok) (hl : IsDct s.heap l) (hu : A.units < cLine) : RcAt A s (.str z t) (.ref l) false := fun prog w E Q h => by
  obtain ⟨dd, es, n, sl, ho⟩ := hl
  refine rc_eq_decline_or (k := false) (Ta := "str") (typeIs_str s z t) ⟨_, ho, rfl⟩ (by decide) F.sub_dict_str F.slot_str_eq F.slot_dict_eq_refl (fun _ hq => ?_) (fun _ hq => ?_) (fun _ hq => wpAny_of_eq (rfl : isSame (.str z t) (.ref l) = pure false) hq) (.inr hu) h
  · exact call_meets F.slot_str_eq (typeIs_str s z t) F.entry_str_eq (F.args_str_eq_2 _ _) (str_dict l es n dd sl z t) ⟨ho, hq⟩
  · exact call_meets F.slot_dict_eq_refl ⟨_, ho, rfl⟩ F.entry_dict_eq (F.args_dict_eq_2 _ _) (dict_str l es n dd sl z t) ⟨ho, hq⟩
theorem at_str (z : Str) (t : Tok) (hl : IsDct s.heap l) (hu : A.units < cLine) : EqAt A s (.str z t) (.ref l) false := fun prog w E Q h => by
  unfold eqBool
  refine wpAny_holding (wpAny_ite_split (fun hab => absurd (eq_of_beq hab) nofun) fun _ => ?_)
  exact wpAny_bind (rc_str z t hl hu prog w E _ (wpAny_truthy_bool h))
theorem ne_list {xs : Array Value} (hb : s.heap.IsList b xs) (hl : IsDct s.heap l) : b ≠ l := fun e => by
  subst e
  obtain ⟨o, ho, hc, _⟩ := hb
  obtain ⟨dd, es, n, sl, ho2⟩ := hl
  rw [ho] at ho2
  cases ho2
  exact absurd hc (by simp)
theorem rc_list {xs : Array Value} (hb : s.heap.IsList b xs) (hl : IsDct s.heap l) (hu : A.units < cLine) : RcAt A s (.ref b) (.ref l) false := fun prog w E Q h => by
  have hne := ne_list hb hl
  obtain ⟨dd, es, n, sl, ho⟩ := hl
  obtain ⟨⟨cls, de, data, sm⟩, hb1, hc, m, hd⟩ := id hb
  simp only at hc hd
  subst hc hd
  refine rc_eq_decline_or (k := false) (Ta := "list") ⟨_, hb1, rfl⟩ ⟨_, ho, rfl⟩ (by decide) F.sub_dict_list F.slot_list_eq F.slot_dict_eq_refl (fun _ hq => ?_) (fun _ hq => ?_) (fun _ hq => wpAny_isSame_ref_other hne hb1 ho (by simp) hq) (.inr hu) h
  · exact call_meets F.slot_list_eq ⟨_, hb1, rfl⟩ F.entry_list_eq (F.args_list_eq_2 _ _) (list_dict l b es xs n m dd de sl sm) ⟨ho, hb1, hq⟩
  · exact call_meets F.slot_dict_eq_refl ⟨_, ho, rfl⟩ F.entry_dict_eq (F.args_dict_eq_2 _ _) (dict_list l b es xs n m dd de sl sm) ⟨ho, hb1, hq⟩
theorem at_list {xs : Array Value} (hb : s.heap.IsList b xs) (hl : IsDct s.heap l) (hu : A.units < cLine) : EqAt A s (.ref b) (.ref l) false := .of_refs (ne_list hb hl) (rc_list hb hl hu)
theorem ne_tuple {xs : Array Value} (hb : s.heap.IsTuple b xs) (hl : IsDct s.heap l) : b ≠ l := fun e => by
  subst e
  obtain ⟨o, ho, hc, _⟩ := hb
  obtain ⟨dd, es, n, sl, ho2⟩ := hl
  rw [ho] at ho2
  cases ho2
  exact absurd hc (by simp)
theorem rc_tuple {xs : Array Value} (hb : s.heap.IsTuple b xs) (hl : IsDct s.heap l) (hu : A.units < cLine) : RcAt A s (.ref b) (.ref l) false := fun prog w E Q h => by
  have hne := ne_tuple hb hl
  obtain ⟨dd, es, n, sl, ho⟩ := hl
  obtain ⟨⟨cls, de, data, sm⟩, hb1, hc, m, hd⟩ := id hb
  simp only at hc hd
  subst hc hd
  refine rc_eq_decline_or (k := false) (Ta := "tuple") ⟨_, hb1, rfl⟩ ⟨_, ho, rfl⟩ (by decide) F.sub_dict_tuple F.slot_tuple_eq F.slot_dict_eq_refl (fun _ hq => ?_) (fun _ hq => ?_) (fun _ hq => wpAny_isSame_ref_other' hne hb1 ho (by simp) hq) (.inr hu) h
  · exact call_meets F.slot_tuple_eq ⟨_, hb1, rfl⟩ F.entry_tuple_eq (F.args_tuple_eq_2 _ _) (tuple_dict l b es xs n m dd de sl sm) ⟨ho, hb1, hq⟩
  · exact call_meets F.slot_dict_eq_refl ⟨_, ho, rfl⟩ F.entry_dict_eq (F.args_dict_eq_2 _ _) (dict_tuple l b es xs n m dd de sl sm) ⟨ho, hb1, hq⟩
theorem at_tuple {xs : Array Value} (hb : s.heap.IsTuple b xs) (hl : IsDct s.heap l) (hu : A.units < cLine) : EqAt A s (.ref b) (.ref l) false := .of_refs (ne_tuple hb hl) (rc_tuple hb hl hu)
end
end Y.DEq
set_option Elab.async false
set_option linter.all false
set_option autoImplicit false
set_option maxRecDepth 100000
set_option maxHeartbeats 4000000
/-! DATA: what a value stands for; zones; the judgements over data -/
namespace Y
open PySem PySem.Spec PyProof.Rows L2
abbrev St := L2.St

/-! ### how the heap grows: all that is tracked stays; the tables of code may have more entries -/
class Tabs where
  /-- the tables of the defs that make functions, each with its functions' qualified name -/
  T : List (Addr × Str)
variable [Tabs]
def isT : HO → Bool
  | .tbl _ => true
  | _ => false
def recO (c : Addr) (q : Str) : HO := .ext fun h => h.CodeRec (.ref c) q
/-- every table is tracked, its codes too -/
def TabsOk (H : Hp) : Prop := ∀ P ∈ Tabs.T, ∃ ps, H P.1 = some (.tbl ps) ∧ TriplesOk ps.toList ∧ ∀ pos cv, codeAmong pos ps.toList = some cv → ∃ c, cv = .ref c ∧ H c = some (recO c P.2)
structure Same (H H' : Hp) : Prop where
  get : ∀ b o, H b = some o → isT o = false → H' b = some o
  tbl : ∀ b ps, H b = some (.tbl ps) → ∃ ps', H' b = some (.tbl ps')
  tabs : TabsOk H → TabsOk H'
theorem Same.at {H H' : Hp} (s : Same H H') {b : Addr} {o : HO} (h : H b = some o) (n : isT o = false := by rfl) : H' b = some o := s.get b o h n
theorem Same.refl (H : Hp) : Same H H := ⟨fun _ _ h _ => h, fun _ ps h => ⟨ps, h⟩, fun t => t⟩
theorem Same.trans {H H1 H2 : Hp} (a : Same H H1) (b : Same H1 H2) : Same H H2 :=
  ⟨fun c o h n => b.get c o (a.get c o h n) n, fun c ps h => let ⟨ps', e⟩ := a.tbl c ps h; b.tbl c ps' e, fun t => b.tabs (a.tabs t)⟩
theorem Same.free {H H' : Hp} (e : Same H H') {l : Addr} (h : H' l = Option.none) : H l = Option.none := by
  cases q : H l with
  | none => rfl
  | some o =>
    cases n : isT o with
    | false => rw [e.get l o q n] at h; cases h
    | true =>
      cases o with
      | tbl ps => obtain ⟨ps', z⟩ := e.tbl l ps q; rw [z] at h; cases h
      | _ => cases n
theorem Same.seq {K : PySem.W.Frag} {H H' : Hp} {a : Addr} {xs : List V} (e : Same H H') (h : SqL K H a xs) : SqL K H' a xs := by
  rcases h with (h | ⟨o, h⟩) | h
  · exact .inl (.inl (e.at h))
  · exact .inl (.inr ⟨o, e.at h⟩)
  · exact .inr h
/-- a dict's keys and values -/
inductive DO where
  | k (kvs : List (Key × V))
  | t (kvs : List (List Key × V))
def DO.ho : DO → HO
  | .k kvs => .dK kvs
  | .t kvs => .dT kvs
/-- what may be written: a list, a dict -/
inductive MO where
  | l (xs : List V)
  | d (o : DO)
def MO.ho : MO → HO
  | .l xs => .lst xs
  | .d o => o.ho
theorem MO.nt (o : MO) : isT o.ho = false := by
  rcases o with xs | (kvs | kvs) <;> rfl
theorem DO.nt (o : DO) : isT o.ho = false := MO.nt (.d o)
theorem DO.inj {o o' : DO} (h : o.ho = o'.ho) : o = o' := by
  cases o <;> cases o' <;> cases h <;> rfl
theorem MO.ntup (o : MO) {xs : List V} (h : o.ho = .tup xs) : False := by
  rcases o with xs | (kvs | kvs) <;> cases h
theorem MO.nfrz (o : MO) {b : Obj} {u : HO} (h : o.ho = .frz b u) : False := by
  rcases o with xs | (kvs | kvs) <;> cases h
theorem TabsOk.upd {H : Hp} {p : Addr} {o : HO} (h : H p = none ∨ ∃ xs : MO, H p = some xs.ho) (t : TabsOk H) : TabsOk (upd H p o) := fun P hP => by
  obtain ⟨ps, e, tr, k⟩ := t P hP
  have ne : ∀ {b : Addr} {u : HO}, H b = some u → (∀ xs : MO, u ≠ xs.ho) → b ≠ p := fun {b u} q n z => by
    rcases h with h | ⟨xs, h⟩
    · rw [z, h] at q; cases q
    · rw [z, h] at q; exact n xs (Option.some.inj q).symm
  refine ⟨ps, by rw [upd_ne (ne e (by intro xs z; rcases xs with xs | (kvs | kvs) <;> cases z))]; exact e, tr, fun pos cv q => ?_⟩
  obtain ⟨c, rfl, hc⟩ := k pos cv q
  exact ⟨c, rfl, by rw [upd_ne (ne hc (by intro xs z; rcases xs with xs | (kvs | kvs) <;> cases z))]; exact hc⟩
/-- a list that is new since H is written -/
theorem Same.writeM {H H' : Hp} {l : Addr} {xs : MO} {o : HO} (s : Same H H') (h : H l = none) (h' : H' l = some xs.ho) : Same H (upd H' l o) :=
  ⟨fun b u e n => by rw [upd_ne (ne_of_none e h)]; exact s.get b u e n, fun b ps e => by rw [upd_ne (ne_of_none e h)]; exact s.tbl b ps e, fun t => (s.tabs t).upd (.inr ⟨xs, h'⟩)⟩
theorem Same.write {H H' : Hp} {l : Addr} {xs : List V} {o : HO} (s : Same H H') (h : H l = none) (h' : H' l = some (.lst xs)) : Same H (upd H' l o) := s.writeM (xs := .l xs) h h'

/-- data: what a value stands for, whole -/
inductive D where
  | non
  | bl (b : Bool)
  | int (i : Int)
  | str (x : Str)
  | lst (ds : List D)
  | tup (ds : List D)
  | dct (o : DO)
  | ktup (ks : List Key)

def kD : Key → D
  | .inl i => .int i
  | .inr x => .str x
/-- where the lists of a datum may lie; m: none of them is read-only -/
structure Zone where
  m : Bool
  S : Addr → Prop

/-- a list that nobody may write: the script, a list of the module -/
def RO (K : PySem.W.Frag) (H : Hp) (a : Addr) (xs : List V) : Prop :=
  (∃ o, H a = some (.frz o (.lst xs))) ∨
    ∃ (o : Obj) (its : Array Value) (n : Nat), K.lookup a = some o ∧ o.cls = .type "list" ∧ o.dict = none ∧ o.data = .seq its n ∧ its.size ≤ sizeLine ∧ Vals xs its.toList
def LstAt (K : PySem.W.Frag) (H : Hp) (Z : Zone) (a : Addr) (xs : List V) : Prop := (H a = some (.lst xs) ∧ Z.S a) ∨ (Z.m = false ∧ RO K H a xs)
theorem LstAt.sq {K : PySem.W.Frag} {H : Hp} {Z : Zone} {a : Addr} {xs : List V} (h : LstAt K H Z a xs) : SqL K H a xs := by
  rcases h with ⟨h, _⟩ | ⟨_, h | h⟩
  · exact .inl (.inl h)
  · exact .inl (.inr h)
  · exact .inr h

/-- a tuple that was made with the module -/
def KTup (K : PySem.W.Frag) (a : Addr) (ks : List Key) : Prop := ∃ (o : Obj) (its : Array Value) (n : Nat), K.lookup a = some o ∧ o.cls = .type "tuple" ∧ o.data = .seq its n ∧ its.size ≤ sizeLine ∧ Vals (ks.map kV) its.toList
mutual
def In (K : PySem.W.Frag) (H : Hp) (Z : Zone) : D → V → Prop
  | .non, v => v = .non
  | .bl b, v => v = .bl b
  | .int i, v => v = .int i
  | .str x, v => v = .str x
  | .lst ds, v => ∃ a xs, v = .ref a ∧ LstAt K H Z a xs ∧ Ins K H Z ds xs
  | .tup ds, v => ∃ a xs, v = .ref a ∧ H a = some (.tup xs) ∧ Ins K H Z ds xs
  | .dct o, v => ∃ a, v = .ref a ∧ H a = some o.ho ∧ Z.S a
  | .ktup ks, v => ∃ a, v = .ref a ∧ KTup K a ks
def Ins (K : PySem.W.Frag) (H : Hp) (Z : Zone) : List D → List V → Prop
  | [], xs => xs = []
  | d :: ds, xs => ∃ v vs, xs = v :: vs ∧ In K H Z d v ∧ Ins K H Z ds vs
end
/-- all that one zone's data lean on is there for the other -/
structure Carry (K : PySem.W.Frag) (H : Hp) (Z : Zone) (H' : Hp) (Z' : Zone) : Prop where
  l : ∀ a (xs : MO), H a = some xs.ho → Z.S a → H' a = some xs.ho ∧ Z'.S a
  r : Z.m = false → Z'.m = false ∧ ∀ a xs, RO K H a xs → RO K H' a xs
  t : ∀ a (xs : List V), H a = some (.tup xs) → H' a = some (.tup xs)

section
variable {K : PySem.W.Frag} {H H' H2 : Hp} {Z Z' Z2 : Zone}
theorem LstAt.carry {a : Addr} {xs : List V} (c : Carry K H Z H' Z') (h : LstAt K H Z a xs) : LstAt K H' Z' a xs := by
  rcases h with ⟨h, s⟩ | ⟨m, h⟩
  · exact .inl (c.l a (.l xs) h s)
  · exact .inr ⟨(c.r m).1, (c.r m).2 a xs h⟩
mutual
theorem In.carry (c : Carry K H Z H' Z') : ∀ {d : D} {v : V}, In K H Z d v → In K H' Z' d v
  | .non, _, h => by unfold In at h ⊢; exact h
  | .bl _, _, h => by unfold In at h ⊢; exact h
  | .int _, _, h => by unfold In at h ⊢; exact h
  | .str _, _, h => by unfold In at h ⊢; exact h
  | .lst ds, v, h => by
    unfold In at h ⊢
    obtain ⟨a, xs, e, l, i⟩ := h
    exact ⟨a, xs, e, l.carry c, Ins.carry c i⟩
  | .tup ds, v, h => by
    unfold In at h ⊢
    obtain ⟨a, xs, e, l, i⟩ := h
    exact ⟨a, xs, e, c.t a xs l, Ins.carry c i⟩
  | .dct o, v, h => by
    unfold In at h ⊢
    obtain ⟨a, e, l, i⟩ := h
    exact ⟨a, e, c.l a (.d o) l i⟩
  | .ktup ks, v, h => by unfold In at h ⊢; exact h
theorem Ins.carry (c : Carry K H Z H' Z') : ∀ {ds : List D} {vs : List V}, Ins K H Z ds vs → Ins K H' Z' ds vs
  | [], _, h => by unfold Ins at h ⊢; exact h
  | d :: ds, vs, h => by
    unfold Ins at h ⊢
    obtain ⟨v, r, e, i, j⟩ := h
    exact ⟨v, r, e, In.carry c i, Ins.carry c j⟩
end
theorem RO.same {a : Addr} {xs : List V} (s : Same H H') (h : RO K H a xs) : RO K H' a xs := by
  rcases h with ⟨o, h⟩ | h
  · exact .inl ⟨o, s.at h⟩
  · exact .inr h
/-- the heap grows, the zone grows -/
theorem Carry.of (s : Same H H') (hS : ∀ a (xs : MO), H a = some xs.ho → Z.S a → Z'.S a) (hm : Z.m = false → Z'.m = false) : Carry K H Z H' Z' :=
  ⟨fun a xs h z => ⟨s.at h xs.nt, hS a xs h z⟩, fun m => ⟨hm m, fun a xs h => h.same s⟩, fun a xs h => s.at h⟩
theorem Carry.same (s : Same H H') : Carry K H Z H' Z := .of s (fun _ _ _ z => z) fun m => m
theorem In.same {d : D} {v : V} (s : Same H H') (h : In K H Z d v) : In K H' Z d v := h.carry (.same s)
theorem Ins.same {ds : List D} {vs : List V} (s : Same H H') (h : Ins K H Z ds vs) : Ins K H' Z ds vs := h.carry (.same s)
/-- a list outside the zone is written -/
theorem Carry.writeM {l : Addr} {xs : MO} {o : HO} (h : H l = some xs.ho) (n : ¬ Z.S l) : Carry K H Z (upd H l o) Z := by
  refine ⟨fun a zs e z => ⟨?_, z⟩, fun m => ⟨m, fun a zs e => ?_⟩, fun a zs e => ?_⟩
  · have : a ≠ l := by rintro rfl; exact n z
    rw [upd_ne this]; exact e
  · rcases e with ⟨o, e⟩ | e
    · refine .inl ⟨o, ?_⟩
      rw [upd_ne (ne_of e h (by intro q; exact xs.nfrz q.symm))]; exact e
    · exact .inr e
  · rw [upd_ne (ne_of e h (by intro q; exact xs.ntup q.symm))]; exact e
theorem Carry.write {l : Addr} {xs ys : List V} (h : H l = some (.lst xs)) (n : ¬ Z.S l) : Carry K H Z (upd H l (.lst ys)) Z := Carry.writeM (xs := .l xs) h n

/-! ### data without lists -/
mutual
def D.flat : D → Bool
  | .lst _ => false
  | .dct _ => false
  | .tup ds => flats ds
  | _ => true
def flats : List D → Bool
  | [] => true
  | d :: ds => D.flat d && flats ds
end
mutual
theorem In.flat (s : ∀ a (xs : List V), H a = some (.tup xs) → H' a = some (.tup xs)) : ∀ {d : D} {v : V}, D.flat d = true → In K H Z d v → In K H' Z' d v
  | .non, _, _, h => by unfold In at h ⊢; exact h
  | .bl _, _, _, h => by unfold In at h ⊢; exact h
  | .int _, _, _, h => by unfold In at h ⊢; exact h
  | .str _, _, _, h => by unfold In at h ⊢; exact h
  | .lst ds, v, f, h => by unfold D.flat at f; cases f
  | .dct o, v, f, h => by unfold D.flat at f; cases f
  | .ktup ks, v, f, h => by unfold In at h ⊢; exact h
  | .tup ds, v, f, h => by
    unfold D.flat at f
    unfold In at h ⊢
    obtain ⟨a, xs, e, l, i⟩ := h
    exact ⟨a, xs, e, s a xs l, Ins.flat s f i⟩
theorem Ins.flat (s : ∀ a (xs : List V), H a = some (.tup xs) → H' a = some (.tup xs)) : ∀ {ds : List D} {vs : List V}, flats ds = true → Ins K H Z ds vs → Ins K H' Z' ds vs
  | [], _, _, h => by unfold Ins at h ⊢; exact h
  | d :: ds, vs, f, h => by
    unfold flats at f
    rw [Bool.and_eq_true] at f
    unfold Ins at h ⊢
    obtain ⟨v, r, e, i, j⟩ := h
    exact ⟨v, r, e, In.flat s f.1 i, Ins.flat s f.2 j⟩
end
theorem In.flat' {d : D} {v : V} (f : d.flat = true) (h : In K H Z d v) : In K H Z' d v := In.flat (fun _ _ e => e) f h
theorem Ins.flat' {ds : List D} {vs : List V} (f : flats ds = true) (h : Ins K H Z ds vs) : Ins K H Z' ds vs := Ins.flat (fun _ _ e => e) f h

/-! ### reading data -/
theorem in_non {v : V} : In K H Z .non v ↔ v = .non := by unfold In; exact Iff.rfl
theorem in_bl {b : Bool} {v : V} : In K H Z (.bl b) v ↔ v = .bl b := by unfold In; exact Iff.rfl
theorem in_int {i : Int} {v : V} : In K H Z (.int i) v ↔ v = .int i := by unfold In; exact Iff.rfl
theorem in_str {x : Str} {v : V} : In K H Z (.str x) v ↔ v = .str x := by unfold In; exact Iff.rfl
theorem in_lst {ds : List D} {v : V} : In K H Z (.lst ds) v ↔ ∃ a xs, v = .ref a ∧ LstAt K H Z a xs ∧ Ins K H Z ds xs := by unfold In; exact Iff.rfl
theorem in_tup {ds : List D} {v : V} : In K H Z (.tup ds) v ↔ ∃ a xs, v = .ref a ∧ H a = some (.tup xs) ∧ Ins K H Z ds xs := by unfold In; exact Iff.rfl
theorem in_tupS {ds : List D} {v : V} (h : In K H Z (.tup ds) v) : ∃ a xs, v = .ref a ∧ SqT K H a xs ∧ Ins K H Z ds xs :=
  let ⟨a, xs, e, l, i⟩ := in_tup.mp h
  ⟨a, xs, e, .inl (.inl l), i⟩
theorem in_ktup {ks : List Key} {v : V} : In K H Z (.ktup ks) v ↔ ∃ a, v = .ref a ∧ KTup K a ks := by unfold In; exact Iff.rfl
theorem KTup.sq {a : Addr} {ks : List Key} (h : KTup K a ks) : SqT K H a (ks.map kV) := by
  obtain ⟨o, its, n, h1, h2, h3, h4, h5⟩ := h
  exact .inr ⟨o, its, n, h1, h2, h3, h4, h5⟩
theorem in_dct {o : DO} {v : V} : In K H Z (.dct o) v ↔ ∃ a, v = .ref a ∧ H a = some o.ho ∧ Z.S a := by unfold In; exact Iff.rfl
theorem ins_nil {vs : List V} : Ins K H Z [] vs ↔ vs = [] := by unfold Ins; exact Iff.rfl
theorem ins_cons {d : D} {ds : List D} {vs : List V} : Ins K H Z (d :: ds) vs ↔ ∃ v r, vs = v :: r ∧ In K H Z d v ∧ Ins K H Z ds r := by
  constructor
  · intro h; unfold Ins at h; exact h
  · intro h; unfold Ins; exact h
theorem Ins.length : ∀ {ds : List D} {vs : List V}, Ins K H Z ds vs → ds.length = vs.length
  | [], _, h => by rw [ins_nil.mp h]; rfl
  | d :: ds, _, h => by
    obtain ⟨v, r, rfl, _, j⟩ := ins_cons.mp h
    rw [List.length_cons, List.length_cons, Ins.length j]
theorem Ins.get : ∀ {ds : List D} {vs : List V} {i : Nat} {d : D}, Ins K H Z ds vs → ds[i]? = some d → ∃ v, vs[i]? = some v ∧ In K H Z d v
  | [], _, _, _, _, e => by simp at e
  | d :: ds, _, 0, _, h, e => by
    obtain ⟨v, r, rfl, a, _⟩ := ins_cons.mp h
    simp at e; subst e
    exact ⟨v, rfl, a⟩
  | d :: ds, _, i + 1, d', h, e => by
    obtain ⟨v, r, rfl, _, j⟩ := ins_cons.mp h
    obtain ⟨w, h1, h2⟩ := Ins.get (i := i) (d := d') j (by simpa using e)
    exact ⟨w, by simpa using h1, h2⟩
theorem Ins.append : ∀ {ds es : List D} {vs ws : List V}, Ins K H Z ds vs → Ins K H Z es ws → Ins K H Z (ds ++ es) (vs ++ ws)
  | [], _, _, _, h, k => by rw [ins_nil.mp h]; exact k
  | d :: ds, _, _, _, h, k => by
    obtain ⟨v, r, rfl, a, j⟩ := ins_cons.mp h
    exact ins_cons.mpr ⟨v, r ++ _, rfl, a, Ins.append j k⟩
theorem Ins.one {d : D} {v : V} (h : In K H Z d v) : Ins K H Z [d] [v] := ins_cons.mpr ⟨v, [], rfl, h, ins_nil.mpr rfl⟩
theorem Ins.drop : ∀ {ds : List D} {vs : List V} (n : Nat), Ins K H Z ds vs → Ins K H Z (ds.drop n) (vs.drop n)
  | _, _, 0, h => h
  | [], _, _ + 1, h => by rw [ins_nil.mp h]; exact ins_nil.mpr (by simp)
  | _ :: _, _, n + 1, h => by
    obtain ⟨v, r, rfl, _, j⟩ := ins_cons.mp h
    exact Ins.drop n j
theorem Ins.take : ∀ {ds : List D} {vs : List V} (n : Nat), Ins K H Z ds vs → Ins K H Z (ds.take n) (vs.take n)
  | _, _, 0, h => by rw [List.take_zero, List.take_zero]; exact ins_nil.mpr rfl
  | [], _, _ + 1, h => by rw [ins_nil.mp h]; exact ins_nil.mpr (by simp)
  | _ :: _, _, n + 1, h => by
    obtain ⟨v, r, rfl, a, j⟩ := ins_cons.mp h
    exact ins_cons.mpr ⟨v, r.take n, rfl, a, Ins.take n j⟩
theorem Ins.set {d : D} {v : V} (a : In K H Z d v) : ∀ {ds : List D} {vs : List V} (i : Nat), Ins K H Z ds vs → Ins K H Z (ds.set i d) (vs.set i v)
  | [], _, _, h => by rw [ins_nil.mp h]; exact ins_nil.mpr (by simp)
  | _ :: _, _, 0, h => by
    obtain ⟨w, r, rfl, _, j⟩ := ins_cons.mp h
    exact ins_cons.mpr ⟨v, r, rfl, a, j⟩
  | _ :: _, _, i + 1, h => by
    obtain ⟨w, r, rfl, b, j⟩ := ins_cons.mp h
    exact ins_cons.mpr ⟨w, r.set i v, rfl, b, Ins.set a i j⟩
/-- a datum item by item -/
theorem Ins.of_get : ∀ {ds : List D} {vs : List V}, ds.length = vs.length → (∀ (i : Nat) d v, ds[i]? = some d → vs[i]? = some v → In K H Z d v) → Ins K H Z ds vs
  | [], [], _, _ => ins_nil.mpr rfl
  | d :: ds, v :: vs, e, h => ins_cons.mpr ⟨v, vs, rfl, h 0 d v rfl rfl, Ins.of_get (by simpa using e) fun i d' v' a b => h (i + 1) d' v' (by simpa using a) (by simpa using b)⟩
  | [], _ :: _, e, _ => by simp at e
  | _ :: _, [], e, _ => by simp at e
/-- ints -/
theorem ins_ints : ∀ (ns : List Int), Ins K H Z (ns.map D.int) (ns.map V.int)
  | [] => ins_nil.mpr rfl
  | n :: ns => ins_cons.mpr ⟨_, _, rfl, in_int.mpr rfl, ins_ints ns⟩
theorem in_kV (k : Key) : In K H Z (kD k) (kV k) := by
  cases k with
  | inl i => exact in_int.mpr rfl
  | inr x => exact in_str.mpr rfl
theorem ins_kV : ∀ (ks : List Key), Ins K H Z (ks.map kD) (ks.map kV)
  | [] => ins_nil.mpr rfl
  | k :: ks => ins_cons.mpr ⟨_, _, rfl, in_kV k, ins_kV ks⟩
theorem ins_ints_inv : ∀ {ns : List Int} {vs : List V}, Ins K H Z (ns.map D.int) vs → vs = ns.map V.int
  | [], _, h => ins_nil.mp h
  | n :: ns, _, h => by
    obtain ⟨v, r, rfl, a, j⟩ := ins_cons.mp h
    rw [in_int.mp a, ins_ints_inv j]; rfl
theorem flats_ints : ∀ (ns : List Int), flats (ns.map D.int) = true
  | [] => by simp [flats]
  | n :: ns => by simp [flats, D.flat, flats_ints ns]
theorem flats_strs : ∀ (ns : List Str), flats (ns.map D.str) = true
  | [] => by simp [flats]
  | n :: ns => by simp [flats, D.flat, flats_strs ns]
theorem flats_all : ∀ {ds : List D}, (∀ d ∈ ds, d.flat = true) → flats ds = true
  | [], _ => by simp [flats]
  | d :: ds, h => by
    have h1 := h d List.mem_cons_self
    have h2 : flats ds = true := flats_all fun e he => h e (List.mem_cons_of_mem _ he)
    simp [flats, h1, h2]
end

/-! ### zones -/
structure Zone.Open (Z : Zone) (H : Hp) : Prop where
  op : ∀ a, H a = none → Z.S a
  tb : TabsOk H
instance {Z : Zone} {H : Hp} : CoeFun (Z.Open H) (fun _ => ∀ a, H a = none → Z.S a) := ⟨fun o => o.op⟩
/-- what is new since H -/
def nw (H : Hp) : Zone := ⟨true, fun a => H a = none⟩
theorem nwF {H : Hp} {C : Prop} (h : (nw H).m = false) : C := Bool.noConfusion (show true = false from h)
def out (m : Bool) (Z : Zone) (H : Hp) : Zone := if m then nw H else Z
def anyZ : Zone := ⟨false, fun _ => True⟩
section
variable {K : PySem.W.Frag} {H H1 H' : Hp} {Z : Zone} {m : Bool}
theorem Zone.Open.same (o : Z.Open H) (s : Same H H') : Z.Open H' := ⟨fun a h => o.op a (s.free h), s.tabs o.tb⟩
theorem anyZ_open (t : TabsOk H) : anyZ.Open H := ⟨fun _ _ => trivial, t⟩
theorem nw_open (t : TabsOk H) (s : Same H H') : (nw H).Open H' := ⟨fun a h => s.free h, s.tabs t⟩
/-- new things lie in every open zone -/
theorem In.up {d : D} {v : V} (o : Z.Open H) (h : In K H' (nw H) d v) : In K H' Z d v := h.carry ⟨fun a xs e z => ⟨e, o a z⟩, fun m => nwF m, fun _ _ e => e⟩
theorem Ins.up {ds : List D} {vs : List V} (o : Z.Open H) (h : Ins K H' (nw H) ds vs) : Ins K H' Z ds vs := h.carry ⟨fun a xs e z => ⟨e, o a z⟩, fun m => nwF m, fun _ _ e => e⟩
theorem In.plain {d : D} {v : V} (o : Z.Open H) (h : In K H' (out m Z H) d v) : In K H' Z d v := by
  cases m
  · exact h
  · exact h.up o
/-- new since a later heap -/
theorem In.later {d : D} {v : V} (s : Same H H1) (h : In K H' (out m Z H1) d v) : In K H' (out m Z H) d v := by
  cases m
  · exact h
  · exact h.carry ⟨fun a xs e z => ⟨e, s.free z⟩, fun m => nwF m, fun _ _ e => e⟩
theorem In.outflat {d : D} {v : V} {Z' : Zone} (f : d.flat = true) (h : In K H' Z' d v) : In K H' (out m Z H) d v := h.flat' f
end

/-! ### the judgement of an expression: from data to a datum; m: all its lists are new -/
def EnvIn (K : PySem.W.Frag) (H : Hp) (Z : Zone) (σ : St) (ρ : List (Option D)) : Prop := ∀ (i : Nat) d, ρ[i]? = some (some d) → ∃ v, σ[i]? = some (some v) ∧ In K H Z d v
theorem EnvIn.same {K : PySem.W.Frag} {H H' : Hp} {Z : Zone} {σ : St} {ρ : List (Option D)} (s : Same H H') (h : EnvIn K H Z σ ρ) : EnvIn K H' Z σ ρ := fun i d e =>
  let ⟨v, a, b⟩ := h i d e; ⟨v, a, b.same s⟩

def tE (K : PySem.W.Frag) (m : Bool) (ρ : List (Option D)) (d : D) : TE := fun σ H Q => ∃ Z : Zone, Z.Open H ∧ EnvIn K H Z σ ρ ∧ ∀ v H', Same H H' → In K H' (out m Z H) d v → Q v H'
def tB' (K : PySem.W.Frag) (ρ : List (Option D)) (b : Bool) : TT := fun σ H Q => ∃ Z : Zone, Z.Open H ∧ EnvIn K H Z σ ρ ∧ ∀ H', Same H H' → Q b H'
def tEA (K : PySem.W.Frag) (ρ : List (Option D)) (ds : List D) : TA := fun σ H Q => ∃ Z : Zone, Z.Open H ∧ EnvIn K H Z σ ρ ∧ ∀ vs H', Same H H' → Ins K H' Z ds vs → Q vs H'
def E (X : Cx) (m : Bool) (ρ : List (Option D)) (e : Expr) (d : D) : Prop := PE X e (tE X.K m ρ d)
def T (X : Cx) (ρ : List (Option D)) (e : Expr) (b : Bool) : Prop := PT X e (tB' X.K ρ b)
def TW (X : Cx) (ρ : List (Option D)) (e : Expr) (b : Bool) : Prop := PW X e (tB' X.K ρ b)
def EA (X : Cx) (ρ : List (Option D)) (es : List Expr) (ds : List D) : Prop := PA X es (tEA X.K ρ ds)

theorem PE.mono {X : Cx} {e : Expr} {t t' : TE} (h : PE X e t) (k : ∀ σ H Q, t' σ H Q → t σ H Q) : PE X e t' := fun pins s σ H Q I q => h pins s σ H Q I (k σ H Q q)
theorem PT.mono {X : Cx} {e : Expr} {t t' : TT} (h : PT X e t) (k : ∀ σ H Q, t' σ H Q → t σ H Q) : PT X e t' := fun pins s σ H Q I q => h pins s σ H Q I (k σ H Q q)
theorem PW.mono {X : Cx} {e : Expr} {t t' : TT} (h : PW X e t) (k : ∀ σ H Q, t' σ H Q → t σ H Q) : PW X e t' := fun wh pins s σ H Q I q => h wh pins s σ H Q I (k σ H Q q)
theorem PA.mono {X : Cx} {es : List Expr} {t t' : TA} (h : PA X es t) (k : ∀ σ H Q, t' σ H Q → t σ H Q) : PA X es t' := fun pos pins s σ H Q I q => h pos pins s σ H Q I (k σ H Q q)

section
variable {X : Cx} {ρ : List (Option D)} {m m1 m2 m3 : Bool} {a b c e : Expr} {es : List Expr} {d d1 d2 d3 : D} {pos : Pos}

theorem E.mode (h : E X true ρ e d) : E X m ρ e d := by
  cases m
  · refine PE.mono h fun σ H Q ⟨Z, oz, en, k⟩ => ⟨Z, oz, en, fun v H' s i => k v H' s (i.up oz)⟩
  · exact h
theorem E.flat (h : E X m1 ρ e d) (f : d.flat = true) : E X m ρ e d :=
  PE.mono h fun σ H Q ⟨Z, oz, en, k⟩ => ⟨Z, oz, en, fun v H' s i => k v H' s (i.flat' f)⟩

theorem E.cast {d' : D} (h : E X m ρ e d) (q : d = d') : E X m ρ e d' := q ▸ h
/-- a name -/
theorem e_var (i : Nat) {x : Str} {d : D} (hr : ρ[i]? = some (some d) := by rfl) (hN : X.N[i]? = some x := by rfl)
    (hv : Vis X.env.scope x := by first | exact Or.inl rfl | exact Or.inr (Or.inl rfl) | exact Or.inr (Or.inr rfl)) (hd : (x == ("__debug__" : Str)) = false := by decide)
    (hcd : (x == ("__classdict__" : Str)) = false := by decide) : E X false ρ (.Name x pos) d :=
  PE.mono (pe_var hN hv hd hcd) fun σ H Q ⟨Z, oz, en, k⟩ => by
    obtain ⟨v, e, i⟩ := en i d hr
    exact ⟨v, e, k v H (Same.refl H) i⟩
theorem e_int {i : Int} {j : Nat} : E X true ρ (.Constant (.int i) j pos) (.int i) := PE.mono pe_int fun σ H Q ⟨Z, oz, en, k⟩ => k _ _ (Same.refl H) (in_int.mpr rfl)
theorem e_bl {b : Bool} {j : Nat} : E X true ρ (.Constant (.bool b) j pos) (.bl b) := PE.mono pe_bl fun σ H Q ⟨Z, oz, en, k⟩ => k _ _ (Same.refl H) (in_bl.mpr rfl)
theorem e_non {j : Nat} : E X true ρ (.Constant .none j pos) .non := PE.mono pe_non fun σ H Q ⟨Z, oz, en, k⟩ => k _ _ (Same.refl H) (in_non.mpr rfl)
theorem e_str {x : Str} {j : Nat} : E X true ρ (.Constant (.str x) j pos) (.str x) := PE.mono pe_str fun σ H Q ⟨Z, oz, en, k⟩ => k _ _ (Same.refl H) (in_str.mpr rfl)
/-- arguments -/
theorem ea_nil : EA X ρ [] [] := PA.mono pa_nil fun σ H Q ⟨Z, oz, en, k⟩ => k [] H (Same.refl H) (ins_nil.mpr rfl)
theorem ea_cons {ds : List D} (ha : E X m1 ρ e d) (hr : EA X ρ es ds) (hs : starEach (e :: es) X.env = (false, eval e X.env) :: starEach es X.env := by rfl) : EA X ρ (e :: es) (d :: ds) :=
  PA.mono (pa_cons ha hr hs) fun σ H Q ⟨Z, oz, en, k⟩ => ⟨Z, oz, en, fun v H1 s1 i1 => ⟨Z, oz.same s1, en.same s1, fun vs H2 s2 i2 => k (v :: vs) H2 (s1.trans s2) (ins_cons.mpr ⟨v, vs, rfl, (i1.plain oz).same s2, i2⟩)⟩⟩
theorem ea_one (ha : E X m1 ρ e d) (hs : starEach (e :: []) X.env = (false, eval e X.env) :: starEach [] X.env := by rfl) : EA X ρ [e] [d] := ea_cons ha ea_nil hs
/-- arguments that are all new -/
def EAF (X : Cx) (ρ : List (Option D)) (es : List Expr) (ds : List D) : Prop := PA X es (fun σ H Q => ∃ Z : Zone, Z.Open H ∧ EnvIn X.K H Z σ ρ ∧ ∀ vs H', Same H H' → Ins X.K H' (nw H) ds vs → Q vs H')
theorem eaf_nil : EAF X ρ [] [] := PA.mono pa_nil fun σ H Q ⟨Z, oz, en, k⟩ => k [] H (Same.refl H) (ins_nil.mpr rfl)
theorem Ins.later {K : PySem.W.Frag} {H H1 H' : Hp} {ds : List D} {vs : List V} (s : Same H H1) (h : Ins K H' (nw H1) ds vs) : Ins K H' (nw H) ds vs :=
  h.carry ⟨fun a xs e z => ⟨e, s.free z⟩, fun m => nwF m, fun _ _ e => e⟩
theorem eaf_cons {ds : List D} (ha : E X true ρ e d) (hr : EAF X ρ es ds) (hs : starEach (e :: es) X.env = (false, eval e X.env) :: starEach es X.env := by rfl) : EAF X ρ (e :: es) (d :: ds) :=
  PA.mono (pa_cons ha hr hs) fun σ H Q ⟨Z, oz, en, k⟩ => ⟨Z, oz, en, fun v H1 s1 i1 => ⟨Z, oz.same s1, en.same s1, fun vs H2 s2 i2 => k (v :: vs) H2 (s1.trans s2) (ins_cons.mpr ⟨v, vs, rfl, In.same s2 i1, i2.later s1⟩)⟩⟩

theorem same_new {H : Hp} {p : Addr} {o : HO} (h : H p = none) : Same H (upd H p o) := ⟨fun b u e _ => by rw [upd_ne (ne_of_none e h)]; exact e, fun b ps e => ⟨ps, by rw [upd_ne (ne_of_none e h)]; exact e⟩, fun t => t.upd (.inl h)⟩
/-- displays -/
theorem e_tup {ds : List D} {x1} (h : EA X ρ es ds) (hz : ds.length ≤ 1000 := by exact of_decide_eq_true rfl) : E X false ρ (.Tuple es x1 pos) (.tup ds) :=
  PE.mono (pe_tup h) fun σ H Q ⟨Z, oz, en, k⟩ => ⟨Z, oz, en, fun vs H1 s1 i1 => ⟨by rw [← i1.length]; exact Nat.le_trans hz (Nat.le_of_lt (small1000 (Nat.le_refl _))), fun p hp =>
    k (.ref p) _ (s1.trans (same_new hp)) (in_tup.mpr ⟨p, vs, rfl, upd_same, i1.same (same_new hp)⟩)⟩⟩
theorem e_lst {ds : List D} (h : EA X ρ es ds) (hz : ds.length ≤ 1000 := by exact of_decide_eq_true rfl) : E X false ρ (.List es pos) (.lst ds) :=
  PE.mono (pe_lst h) fun σ H Q ⟨Z, oz, en, k⟩ => ⟨Z, oz, en, fun vs H1 s1 i1 => ⟨by rw [← i1.length]; exact Nat.le_trans hz (Nat.le_of_lt (small1000 (Nat.le_refl _))), fun p hp =>
    k (.ref p) _ (s1.trans (same_new hp)) (in_lst.mpr ⟨p, vs, rfl, .inl ⟨upd_same, oz p (s1.free hp)⟩, i1.same (same_new hp)⟩)⟩⟩
theorem e_lstF {ds : List D} (h : EAF X ρ es ds) (hz : ds.length ≤ 1000 := by exact of_decide_eq_true rfl) : E X true ρ (.List es pos) (.lst ds) :=
  PE.mono (pe_lst h) fun σ H Q ⟨Z, oz, en, k⟩ => ⟨Z, oz, en, fun vs H1 s1 i1 => ⟨by rw [← i1.length]; exact Nat.le_trans hz (Nat.le_of_lt (small1000 (Nat.le_refl _))), fun p hp =>
    k (.ref p) _ (s1.trans (same_new hp)) (in_lst.mpr ⟨p, vs, rfl, .inl ⟨upd_same, s1.free hp⟩, i1.same (same_new hp)⟩)⟩⟩
/-- a display of flat items is new -/
theorem e_lstN {ds : List D} (h : EA X ρ es ds) (f : flats ds = true := by rfl) (hz : ds.length ≤ 1000 := by exact of_decide_eq_true rfl) : E X true ρ (.List es pos) (.lst ds) := by
  refine E.mode (PE.mono (pe_lst h) fun σ H Q ⟨Z, oz, en, k⟩ => ⟨Z, oz, en, fun vs H1 s1 i1 => ⟨by rw [← i1.length]; exact Nat.le_trans hz (Nat.le_of_lt (small1000 (Nat.le_refl _))), fun p hp =>
    k (.ref p) _ (s1.trans (same_new hp)) (in_lst.mpr ⟨p, vs, rfl, .inl ⟨upd_same, s1.free hp⟩, (i1.same (same_new hp)).flat' f⟩)⟩⟩)

/-- two values, then an operation on them -/
theorem two {ta tb : TE} {σ : St} {H : Hp} {Z : Zone} {R : V → V → Hp → Prop} (oz : Z.Open H) (en : EnvIn X.K H Z σ ρ)
    (h : ∀ x y H', Same H H' → In X.K H' Z d1 x → In X.K H' Z d2 y → R x y H') : tE X.K m1 ρ d1 σ H fun x H1 => tE X.K m2 ρ d2 σ H1 fun y H2 => R x y H2 :=
  ⟨Z, oz, en, fun x H1 s1 i1 => ⟨Z, oz.same s1, en.same s1, fun y H2 s2 i2 => h x y H2 (s1.trans s2) ((i1.plain oz).same s2) (i2.plain (oz.same s1))⟩⟩
theorem e_op {op : Operator} {r : R2} (ho : OpR X (binaryOp op) r) (ha : E X m1 ρ a d1) (hb : E X m2 ρ b d2)
    (h : ∀ x y H Z Q, Z.Open H → In X.K H Z d1 x → In X.K H Z d2 y → (∀ v H', Same H H' → In X.K H' (out m Z H) d v → Q v H') → r x y H Q) : E X m ρ (.BinOp a op b pos) d :=
  PE.mono (pe_op ho ha hb) fun σ H Q ⟨Z, oz, en, k⟩ => two (ta := tE X.K m1 ρ d1) (tb := tE X.K m2 ρ d2) oz en fun x y H2 s i1 i2 => h x y H2 Z _ (oz.same s) i1 i2 fun v H' s' i => k v H' (s.trans s') (i.later s)
theorem e_cmp {op : CmpOp} {r : R2} (ho : OpR X (compareOp op) r) (ha : E X m1 ρ a d1) (hb : E X m2 ρ b d2)
    (h : ∀ x y H Z Q, Z.Open H → In X.K H Z d1 x → In X.K H Z d2 y → (∀ v H', Same H H' → In X.K H' (out m Z H) d v → Q v H') → r x y H Q) (hm : behindInMarks op b = false) : E X m ρ (.Compare a [op] [b] pos) d :=
  PE.mono (pe_cmpR ho ha hb hm) fun σ H Q ⟨Z, oz, en, k⟩ => two (ta := tE X.K m1 ρ d1) (tb := tE X.K m2 ρ d2) oz en fun x y H2 s i1 i2 => h x y H2 Z _ (oz.same s) i1 i2 fun v H' s' i => k v H' (s.trans s') (i.later s)
theorem t_cmp {op : CmpOp} {r : R2} {p : Bool} (ho : OpR X (compareOp op) r) (ha : E X m1 ρ a d1) (hb : E X m2 ρ b d2)
    (h : ∀ x y H Z Q, Z.Open H → In X.K H Z d1 x → In X.K H Z d2 y → (∀ H', Same H H' → Q (.bl p) H') → r x y H Q) (hm : behindInMarks op b = false) : T X ρ (.Compare a [op] [b] pos) p :=
  PT.mono (pt_cmpR ho ha hb hm) fun σ H Q ⟨Z, oz, en, k⟩ => two (ta := tE X.K m1 ρ d1) (tb := tE X.K m2 ρ d2) oz en fun x y H2 s i1 i2 => h x y H2 Z _ (oz.same s) i1 i2 fun H' s' => ⟨p, rfl, k H' (s.trans s')⟩

/-! ints -/
theorem e_add {i j : Int} (ha : E X m1 ρ a (.int i)) (hb : E X m2 ρ b (.int j)) : E X true ρ (.BinOp a .Add b pos) (.int (i + j)) :=
  e_op op_add ha hb fun x y H Z Q _ i1 i2 k => ⟨_, _, in_int.mp i1, in_int.mp i2, k _ _ (Same.refl H) (in_int.mpr rfl)⟩
theorem e_sub {i j : Int} (ha : E X m1 ρ a (.int i)) (hb : E X m2 ρ b (.int j)) : E X true ρ (.BinOp a .Sub b pos) (.int (i - j)) :=
  e_op op_sub ha hb fun x y H Z Q _ i1 i2 k => ⟨_, _, in_int.mp i1, in_int.mp i2, k _ _ (Same.refl H) (in_int.mpr rfl)⟩
theorem e_mul {i j : Int} (ha : E X m1 ρ a (.int i)) (hb : E X m2 ρ b (.int j)) (hc : CMul i j) : E X true ρ (.BinOp a .Mult b pos) (.int (i * j)) :=
  e_op op_mul ha hb fun x y H Z Q _ i1 i2 k => ⟨_, _, in_int.mp i1, in_int.mp i2, hc, k _ _ (Same.refl H) (in_int.mpr rfl)⟩
theorem e_mod {i j : Int} (ha : E X m1 ρ a (.int i)) (hb : E X m2 ρ b (.int j)) (hc : 0 < j) : E X true ρ (.BinOp a .Mod b pos) (.int (i % j)) :=
  e_op op_mod ha hb fun x y H Z Q _ i1 i2 k => ⟨_, _, in_int.mp i1, in_int.mp i2, hc, k _ _ (Same.refl H) (in_int.mpr rfl)⟩
theorem e_fdiv {i j : Int} (ha : E X m1 ρ a (.int i)) (hb : E X m2 ρ b (.int j)) (hc : CDiv i j) : E X true ρ (.BinOp a .FloorDiv b pos) (.int (i / j)) :=
  e_op op_fdiv ha hb fun x y H Z Q _ i1 i2 k => ⟨_, _, in_int.mp i1, in_int.mp i2, hc, k _ _ (Same.refl H) (in_int.mpr rfl)⟩
theorem e_pow {i j : Int} (ha : E X m1 ρ a (.int i)) (hb : E X m2 ρ b (.int j)) (hc : CPow i j) : E X true ρ (.BinOp a .Pow b pos) (.int (i ^ j.toNat)) :=
  e_op op_pow ha hb fun x y H Z Q _ i1 i2 k => ⟨_, _, in_int.mp i1, in_int.mp i2, hc, k _ _ (Same.refl H) (in_int.mpr rfl)⟩
theorem e_neg {i : Int} (ha : E X m1 ρ a (.int i)) : E X true ρ (.UnaryOp .USub a pos) (.int (-i)) :=
  PE.mono (pe_un un_neg ha) fun σ H Q ⟨Z, oz, en, k⟩ => ⟨Z, oz, en, fun x H1 s1 i1 => ⟨i, in_int.mp (i1.plain oz), k _ _ s1 (in_int.mpr rfl)⟩⟩
/-- texts -/
theorem e_addS {x y : Str} (ha : E X m1 ρ a (.str x)) (hb : E X m2 ρ b (.str y)) (hz : x.length + y.length ≤ sizeLine) : E X true ρ (.BinOp a .Add b pos) (.str (x ++ y)) :=
  e_op op_add_str ha hb fun x y H Z Q _ i1 i2 k => ⟨_, _, in_str.mp i1, in_str.mp i2, hz, k _ _ (Same.refl H) (in_str.mpr rfl)⟩

/-! comparing -/
theorem t_ltI {i j : Int} (ha : E X m1 ρ a (.int i)) (hb : E X m2 ρ b (.int j)) : T X ρ (.Compare a [.Lt] [b] pos) (decide (i < j)) :=
  t_cmp op_lt ha hb (fun x y H Z Q _ i1 i2 k => ⟨_, _, in_int.mp i1, in_int.mp i2, k _ (Same.refl H)⟩) (nomark _)
theorem t_leI {i j : Int} (ha : E X m1 ρ a (.int i)) (hb : E X m2 ρ b (.int j)) : T X ρ (.Compare a [.LtE] [b] pos) (decide (i ≤ j)) :=
  t_cmp op_le ha hb (fun x y H Z Q _ i1 i2 k => ⟨_, _, in_int.mp i1, in_int.mp i2, k _ (Same.refl H)⟩) (nomark _)
theorem t_gtI {i j : Int} (ha : E X m1 ρ a (.int i)) (hb : E X m2 ρ b (.int j)) : T X ρ (.Compare a [.Gt] [b] pos) (decide (j < i)) :=
  t_cmp op_gt ha hb (fun x y H Z Q _ i1 i2 k => ⟨_, _, in_int.mp i1, in_int.mp i2, k _ (Same.refl H)⟩) (nomark _)
theorem e_eqI {i j : Int} (ha : E X m1 ρ a (.int i)) (hb : E X m2 ρ b (.int j)) : E X true ρ (.Compare a [.Eq] [b] pos) (.bl (decide (i = j))) :=
  e_cmp op_eq ha hb (fun x y H Z Q _ i1 i2 k => by rw [in_int.mp i1, in_int.mp i2]; exact ⟨rfl, k _ _ (Same.refl H) (in_bl.mpr (by simp))⟩) (nomark _)
theorem t_eqI {i j : Int} (ha : E X m1 ρ a (.int i)) (hb : E X m2 ρ b (.int j)) : T X ρ (.Compare a [.Eq] [b] pos) (decide (i = j)) :=
  t_cmp op_eq ha hb (fun x y H Z Q _ i1 i2 k => by rw [in_int.mp i1, in_int.mp i2]; exact ⟨rfl, by simpa using k _ (Same.refl H)⟩) (nomark _)
theorem t_eqS {i j : Str} (ha : E X m1 ρ a (.str i)) (hb : E X m2 ρ b (.str j)) : T X ρ (.Compare a [.Eq] [b] pos) (decide (i = j)) :=
  t_cmp op_eq ha hb (fun x y H Z Q _ i1 i2 k => by rw [in_str.mp i1, in_str.mp i2]; exact ⟨rfl, by simpa using k _ (Same.refl H)⟩) (nomark _)
/-! and, or, not, if else -/
theorem tw_and1 {p : Bool} (ha : T X ρ a p) : TW X ρ (.BoolOp .And [a] pos) p := pw_and1 ha
theorem tw_or1 {p : Bool} (ha : T X ρ a p) : TW X ρ (.BoolOp .Or [a] pos) p := pw_or1 ha
theorem tw_and {p q : Bool} {r : List Expr} (ha : T X ρ a p) (hb : p = true → TW X ρ (.BoolOp .And (b :: r) pos) q) : TW X ρ (.BoolOp .And (a :: b :: r) pos) (p && q) := by
  cases p with
  | true =>
    exact PW.mono (pw_and ha (hb rfl)) fun σ H Q ⟨Z, oz, en, k⟩ => ⟨Z, oz, en, fun H1 s1 => by
      refine iteT ?_; exact ⟨Z, oz.same s1, en.same s1, fun H2 s2 => k H2 (s1.trans s2)⟩⟩
  | false =>
    exact PW.mono (pw_and (tB' := fun _ _ _ => False) ha (fun wh pins s σ H Q I h => h.elim)) fun σ H Q ⟨Z, oz, en, k⟩ => ⟨Z, oz, en, fun H1 s1 => by
      refine iteF ?_; exact k H1 s1⟩
theorem tw_or {p q : Bool} {r : List Expr} (ha : T X ρ a p) (hb : p = false → TW X ρ (.BoolOp .Or (b :: r) pos) q) : TW X ρ (.BoolOp .Or (a :: b :: r) pos) (p || q) := by
  cases p with
  | false =>
    exact PW.mono (pw_or ha (hb rfl)) fun σ H Q ⟨Z, oz, en, k⟩ => ⟨Z, oz, en, fun H1 s1 => by
      refine iteF ?_; exact ⟨Z, oz.same s1, en.same s1, fun H2 s2 => k H2 (s1.trans s2)⟩⟩
  | true =>
    exact PW.mono (pw_or (tB' := fun _ _ _ => False) ha (fun wh pins s σ H Q I h => h.elim)) fun σ H Q ⟨Z, oz, en, k⟩ => ⟨Z, oz, en, fun H1 s1 => by
      refine iteT ?_; exact k H1 s1⟩
theorem TW.t {p : Bool} (h : TW X ρ a p) : T X ρ a p := PW.pt h
theorem t_not {p : Bool} (ha : T X ρ a p) : T X ρ (.UnaryOp .Not a pos) (!p) := PT.mono (pt_not ha) fun σ H Q ⟨Z, oz, en, k⟩ => ⟨Z, oz, en, fun H1 s1 => k H1 s1⟩
/-- a value that is a bool, as a test -/
theorem t_val {p : Bool} (h : E X m1 ρ e (.bl p)) (he : ∀ whole, isTrue e X.env whole = (do let v ← whole; standAt e.pos; holding [v] (truthy v)) := by intro _; rfl) : T X ρ e p :=
  PT.mono (pt_val h he) fun σ H Q ⟨Z, oz, en, k⟩ => ⟨Z, oz, en, fun v H1 s1 i1 => ⟨p, in_bl.mp (i1.plain oz), k H1 s1⟩⟩
theorem e_one {op : BoolOp} (h : E X m ρ a d) : E X m ρ (.BoolOp op [a] pos) d := pe_one h
theorem e_and {p : Bool} {q : Bool} {r : List Expr} (ha : E X m1 ρ a (.bl p)) (hb : p = true → E X m2 ρ (.BoolOp .And (b :: r) pos) (.bl q)) : E X true ρ (.BoolOp .And (a :: b :: r) pos) (.bl (p && q)) := by
  cases p with
  | true =>
    exact PE.mono (pe_and ha (hb rfl)) fun σ H Q ⟨Z, oz, en, k⟩ => ⟨Z, oz, en, fun v H1 s1 i1 => ⟨true, in_bl.mp (i1.plain oz), by
      refine iteT ?_; exact ⟨Z, oz.same s1, en.same s1, fun w H2 s2 i2 => k w H2 (s1.trans s2) (i2.outflat rfl)⟩⟩⟩
  | false =>
    exact PE.mono (pe_and (tb := fun _ _ _ => False) ha (fun pins s σ H Q I h => h.elim)) fun σ H Q ⟨Z, oz, en, k⟩ => ⟨Z, oz, en, fun v H1 s1 i1 => ⟨false, in_bl.mp (i1.plain oz), by
      refine iteF ?_; exact k _ H1 s1 (in_bl.mpr rfl)⟩⟩
theorem e_not {p : Bool} (ha : E X m1 ρ a (.bl p)) : E X true ρ (.UnaryOp .Not a pos) (.bl (!p)) :=
  PE.mono (pe_not ha) fun σ H Q ⟨Z, oz, en, k⟩ => ⟨Z, oz, en, fun v H1 s1 i1 => ⟨p, in_bl.mp (i1.plain oz), k _ H1 s1 (in_bl.mpr rfl)⟩⟩
/-! items and slices -/
theorem Ins.atI {K : PySem.W.Frag} {H : Hp} {Z : Zone} {ds : List D} {vs : List V} {i : Int} {d : D} (h : Ins K H Z ds vs) (e : atI ds i = some d) : ∃ v, atI vs i = some v ∧ In K H Z d v := by
  unfold L2.atI at e ⊢
  rw [← h.length]
  cases q : ixN ds.length i with
  | none => rw [q] at e; cases e
  | some j =>
    rw [q] at e
    exact h.get e
theorem e_ixL {ds : List D} {i : Int} (ha : E X m1 ρ a (.lst ds)) (hb : E X m2 ρ b (.int i)) (h : atI ds i = some d) (hs : PlainIx b := by intro _ _; rfl) : E X m1 ρ (.Subscript a b pos) d :=
  PE.mono (pe_ix ix_list ha hb hs) fun σ H Q ⟨Z, oz, en, k⟩ => ⟨Z, oz, en, fun x H1 s1 i1 => ⟨Z, oz.same s1, en.same s1, fun y H2 s2 i2 => by
    obtain ⟨p, xs, rfl, l, j⟩ := in_lst.mp (In.same s2 i1)
    obtain ⟨v, e, iv⟩ := j.atI h
    exact ⟨p, xs, i, v, rfl, in_int.mp (i2.plain (oz.same s1)), l.sq, e, k v H2 (s1.trans s2) iv⟩⟩⟩
theorem e_ixT {ds : List D} {i : Int} (ha : E X m1 ρ a (.tup ds)) (hb : E X m2 ρ b (.int i)) (h : atI ds i = some d) (hs : PlainIx b := by intro _ _; rfl) : E X m1 ρ (.Subscript a b pos) d :=
  PE.mono (pe_ix ix_tup ha hb hs) fun σ H Q ⟨Z, oz, en, k⟩ => ⟨Z, oz, en, fun x H1 s1 i1 => ⟨Z, oz.same s1, en.same s1, fun y H2 s2 i2 => by
    obtain ⟨p, xs, rfl, l, j⟩ := in_tupS (In.same s2 i1)
    obtain ⟨v, e, iv⟩ := j.atI h
    exact ⟨p, xs, i, v, rfl, in_int.mp (i2.plain (oz.same s1)), l, e, k v H2 (s1.trans s2) iv⟩⟩⟩
theorem e_ixS {z : Str} {i : Int} {cp : Nat} (ha : E X m1 ρ a (.str z)) (hb : E X m2 ρ b (.int i)) (hz : z.length ≤ sizeLine) (h : atI z.cps.toList i = some cp) (hs : PlainIx b := by intro _ _; rfl) : E X true ρ (.Subscript a b pos) (.str ⟨#[cp]⟩) :=
  PE.mono (pe_ix ix_str ha hb hs) fun σ H Q ⟨Z, oz, en, k⟩ => two (ta := tE X.K m1 ρ (.str z)) (tb := tE X.K m2 ρ (.int i)) oz en fun x y H2 s i1 i2 =>
    ⟨z, i, cp, in_str.mp i1, in_int.mp i2, hz, h, k _ H2 s (in_str.mpr rfl)⟩
/-- a slice's parts -/
def EO (X : Cx) (ρ : List (Option D)) (e : Option Expr) (o : Option Int) : Prop := PO X e (fun σ H Q => ∃ Z : Zone, Z.Open H ∧ EnvIn X.K H Z σ ρ ∧ ∀ H', Same H H' → Q o H')
theorem PO.mono {e : Option Expr} {t t' : TO} (h : PO X e t) (k : ∀ σ H Q, t' σ H Q → t σ H Q) : PO X e t' := fun pins s σ H Q I q => h pins s σ H Q I (k σ H Q q)
theorem eo_none : EO X ρ none none := PO.mono po_none fun σ H Q ⟨Z, oz, en, k⟩ => k H (Same.refl H)
theorem eo_some {i : Int} (h : E X m1 ρ e (.int i)) : EO X ρ (some e) (some i) := PO.mono (po_some h) fun σ H Q ⟨Z, oz, en, k⟩ => ⟨Z, oz, en, fun v H1 s1 i1 => ⟨i, in_int.mp (i1.plain oz), k H1 s1⟩⟩
def cut {α : Type} (xs : List α) (lo hi : Option Int) : List α := (xs.drop (HT.sIx xs.length 0 lo)).take (HT.sIx xs.length xs.length hi - HT.sIx xs.length 0 lo)
theorem Ins.cut {K : PySem.W.Frag} {H : Hp} {Z : Zone} {ds : List D} {vs : List V} (h : Ins K H Z ds vs) (lo hi : Option Int) : Ins K H Z (cut ds lo hi) (cutV vs lo hi) := by
  unfold Y.cut cutV
  rw [h.length]
  exact (h.drop _).take _
variable {lo hi : Option Expr} {l u : Option Int} {p2 : Pos}
/-- a list's slice is a new list; its items are the old ones -/
theorem e_slL {ds : List D} (ha : E X m1 ρ a (.lst ds)) (hl : EO X ρ lo l) (hu : EO X ρ hi u) (hm : m = true → m1 = true ∨ flats (cut ds l u) = true := by intro h; first | exact .inl h | cases h) : E X m ρ (.Subscript a (.Slice lo hi none p2) pos) (.lst (cut ds l u)) :=
  PE.mono (pe_slice sl_list ha hl hu) fun σ H Q ⟨Z, oz, en, k⟩ => ⟨Z, oz, en, fun x H1 s1 i1 => ⟨Z, oz.same s1, en.same s1, fun H2 s2 => ⟨Z, oz.same (s1.trans s2), en.same (s1.trans s2), fun H3 s3 => by
    have s := (s1.trans s2).trans s3
    have i3 : In X.K H3 (out m1 Z H) (.lst ds) x := In.same (s2.trans s3) i1
    obtain ⟨p, xs, rfl, lq, j⟩ := in_lst.mp i3
    refine ⟨p, xs, rfl, lq.sq, fun q hq => k (.ref q) _ (s.trans (same_new hq)) (in_lst.mpr ⟨q, _, rfl, .inl ⟨upd_same, ?_⟩, ?_⟩)⟩
    · cases m
      · exact oz q (s.free hq)
      · exact s.free hq
    · have jc := (j.cut l u).same (same_new (o := .lst (cutV xs l u)) hq)
      cases m
      · cases m1
        · exact jc
        · exact jc.up oz
      · rcases hm rfl with h | h
        · subst h; exact jc
        · exact jc.flat' h⟩⟩⟩
end
end Y
set_option Elab.async false
set_option linter.all false
set_option autoImplicit false
set_option maxRecDepth 100000
set_option maxHeartbeats 4000000
/-! A COMPREHENSION'S BLOCK -/
namespace Y
open PySem PySem.Spec PyProof.Rows L2
variable [Tabs]

/-! ### the closure -/
def clOf (cells : List (Str × Addr)) : List (Str × NameKind) → List (Str × Addr) → List (Str × Addr)
  | [], acc => acc
  | (n, k) :: r, acc => if k == .free then clOf cells r ((n, (cells.lookup n).getD 0) :: acc) else clOf cells r acc
theorem clOf_sub {cells : List (Str × Addr)} : ∀ {names : List (Str × NameKind)} {acc : List (Str × Addr)}, (∀ y ∈ names, y.2 = .free → ∃ c, cells.lookup y.1 = some c) → (∀ x c, acc.lookup x = some c → cells.lookup x = some c) →
    ∀ x c, (clOf cells names acc).lookup x = some c → cells.lookup x = some c
  | [], _, _, h2, x, c, e => h2 x c e
  | (n, k) :: r, acc, h1, h2, x, c, e => by
    unfold clOf at e
    by_cases hk : (k == NameKind.free) = true
    · rw [if_pos hk] at e
      refine clOf_sub (fun y hy => h1 y (List.mem_cons_of_mem _ hy)) (fun y c' e' => ?_) x c e
      obtain ⟨c0, e0⟩ := h1 (n, k) List.mem_cons_self (by simpa using hk)
      rw [List.lookup_cons] at e'
      cases hy : y == n with
      | true =>
        rw [hy] at e'
        simp at e'
        have : y = n := by simpa using hy
        subst this
        rw [e0] at e' ⊢
        simpa using e'
      | false =>
        rw [hy] at e'
        exact h2 y c' e'
    · rw [if_neg hk] at e
      exact clOf_sub (fun y hy => h1 y (List.mem_cons_of_mem _ hy)) h2 x c e
theorem clOf_acc {cells : List (Str × Addr)} : ∀ {names : List (Str × NameKind)} {acc : List (Str × Addr)} {x : Str}, (∃ c, acc.lookup x = some c) → ∃ c, (clOf cells names acc).lookup x = some c
  | [], _, _, h => h
  | (n, k) :: r, acc, x, h => by
    unfold clOf
    by_cases hk : (k == NameKind.free) = true
    · rw [if_pos hk]
      refine clOf_acc ?_
      rw [List.lookup_cons]
      cases hy : x == n with
      | true => exact ⟨_, rfl⟩
      | false => exact h
    · rw [if_neg hk]; exact clOf_acc h
theorem clOf_has {cells : List (Str × Addr)} : ∀ {names : List (Str × NameKind)} {acc : List (Str × Addr)} {x : Str}, (x, NameKind.free) ∈ names → ∃ c, (clOf cells names acc).lookup x = some c
  | [], _, _, h => by cases h
  | (n, k) :: r, acc, x, h => by
    unfold clOf
    rcases List.mem_cons.mp h with e | h
    · cases e
      rw [if_pos (by decide)]
      exact clOf_acc ⟨(cells.lookup n).getD 0, by rw [List.lookup_cons]; simp⟩
    · by_cases hk : (k == NameKind.free) = true
      · rw [if_pos hk]; exact clOf_has h
      · rw [if_neg hk]; exact clOf_has h
theorem closure_of {scope : Scope} {env : Env} (h : ∀ y ∈ scope.names, y.2 = .free → ∃ c, env.cells.lookup y.1 = some c) : closureFor scope env = pure (clOf env.cells scope.names []) := by
  have key : ∀ (names : List (Str × NameKind)) (acc : List (Str × Addr)), (∀ y ∈ names, y.2 = .free → ∃ c, env.cells.lookup y.1 = some c) →
      (forIn names acc fun (x : Str × NameKind) (cs : List (Str × Addr)) => (match x with
        | (name, kind) => if (kind == NameKind.free) = true then do let a ← cellOf env name; pure (ForInStep.yield ((name, a) :: cs)) else pure (ForInStep.yield cs)) : Sem (List (Str × Addr))) = pure (clOf env.cells names acc) := by
    intro names
    induction names with
    | nil => intro acc _; rfl
    | cons y r ih =>
      intro acc hy
      obtain ⟨n, k⟩ := y
      rw [List.forIn_cons]
      unfold clOf
      by_cases hk : (k == NameKind.free) = true
      · obtain ⟨c, e⟩ := hy (n, k) List.mem_cons_self (by simpa using hk)
        have e1 : cellOf env n = pure c := by unfold cellOf; rw [e]
        simp only [hk, if_true, e1, pure_bind]
        rw [ih _ fun z hz => hy z (List.mem_cons_of_mem _ hz), e]
        rfl
      · simp only [hk, if_false, pure_bind]
        exact ih _ fun z hz => hy z (List.mem_cons_of_mem _ hz)
  unfold closureFor
  have k := key scope.names [] h
  first
    | (simp only [bind_pure]; exact k)
    | (rw [k]; rfl)
    | exact k

theorem lookup_relabel {env : Env} {P : NameKind → Prop} (hP : P .free → P .cell) : ∀ {names : List (Str × NameKind)} {x : Str} {k : NameKind}, names.lookup x = some k → P k →
    ∃ k', (names.map fun (n, k) => if (k == NameKind.free && env.scope.kind == .function && env.kindOf n == some .cell) then (n, NameKind.cell) else (n, k)).lookup x = some k' ∧ P k'
  | [], _, _, h, _ => by simp at h
  | (n, k0) :: r, x, k, h, p => by
    have ih := @lookup_relabel env P hP r x k
    show ∃ k', List.lookup x ((if (k0 == NameKind.free && env.scope.kind == .function && env.kindOf n == some .cell) = true then (n, NameKind.cell) else (n, k0)) :: _) = some k' ∧ P k'
    cases hx : x == n with
    | true =>
      simp only [List.lookup_cons, hx] at h
      have hk : k0 = k := Option.some.inj h
      subst hk
      by_cases hc : (k0 == NameKind.free && env.scope.kind == .function && env.kindOf n == some .cell) = true
      · rw [if_pos hc]; simp only [List.lookup_cons, hx]
        refine ⟨_, rfl, ?_⟩
        have : k0 = .free := by simp at hc; exact hc.1.1
        subst this
        exact hP p
      · rw [if_neg hc]; simp only [List.lookup_cons, hx]; exact ⟨_, rfl, p⟩
    | false =>
      simp only [List.lookup_cons, hx] at h
      by_cases hc : (k0 == NameKind.free && env.scope.kind == .function && env.kindOf n == some .cell) = true
      · rw [if_pos hc]; simp only [List.lookup_cons, hx]; exact ih h p
      · rw [if_neg hc]; simp only [List.lookup_cons, hx]; exact ih h p
theorem unlook_relabel {env : Env} : ∀ {names : List (Str × NameKind)} {x : Str} {k' : NameKind}, (names.map fun (n, k) => if (k == NameKind.free && env.scope.kind == .function && env.kindOf n == some .cell) then (n, NameKind.cell) else (n, k)).lookup x = some k' →
    ∃ k, (x, k) ∈ names ∧ (k' = k ∨ k = .free)
  | [], _, _, h => by simp at h
  | (n, k0) :: r, x, k', h => by
    have ih := @unlook_relabel env r x k'
    have h' : List.lookup x ((if (k0 == NameKind.free && env.scope.kind == .function && env.kindOf n == some .cell) = true then (n, NameKind.cell) else (n, k0)) :: (r.map fun (n, k) => if (k == NameKind.free && env.scope.kind == .function && env.kindOf n == some .cell) then (n, NameKind.cell) else (n, k))) = some k' := h
    cases hx : x == n with
    | true =>
      have hxn : x = n := by simpa using hx
      subst hxn
      by_cases hc : (k0 == NameKind.free && env.scope.kind == .function && env.kindOf x == some .cell) = true
      · have : k0 = .free := by simp at hc; exact hc.1.1
        exact ⟨k0, List.mem_cons_self, .inr this⟩
      · rw [if_neg hc] at h'; simp only [List.lookup_cons, hx] at h'
        cases h'
        exact ⟨k0, List.mem_cons_self, .inl rfl⟩
    | false =>
      have h2 : List.lookup x (r.map fun (n, k) => if (k == NameKind.free && env.scope.kind == .function && env.kindOf n == some .cell) then (n, NameKind.cell) else (n, k)) = some k' := by
        by_cases hc : (k0 == NameKind.free && env.scope.kind == .function && env.kindOf n == some .cell) = true
        · rw [if_pos hc] at h'; simp only [List.lookup_cons, hx] at h'; exact h'
        · rw [if_neg hc] at h'; simp only [List.lookup_cons, hx] at h'; exact h'
      obtain ⟨k, a, b⟩ := ih h2
      exact ⟨k, List.mem_cons_of_mem _ a, b⟩

/-! ### the block's names: its own, then those that it captures (js: their slots outside) -/
def CapOk (X : Cx) : List Str → List Nat → Prop
  | [], [] => True
  | y :: ys, j :: js => (X.N[j]? = some y ∧ (X.env.scope.names.lookup y = some .cell ∨ X.env.scope.names.lookup y = some .free)) ∧ CapOk X ys js
  | _, _ => False
theorem CapOk.at {X : Cx} : ∀ {caps : List Str} {js : List Nat}, CapOk X caps js → ∀ (k : Nat) y j, caps[k]? = some y → js[k]? = some j → X.N[j]? = some y ∧ (X.env.scope.names.lookup y = some .cell ∨ X.env.scope.names.lookup y = some .free)
  | [], _, _, _, _, _, e, _ => by simp at e
  | _ :: _, [], h, _, _, _, _, _ => by exact False.elim h
  | y :: ys, j :: js, h, 0, _, _, e1, e2 => by simp at e1 e2; subst e1 e2; exact h.1
  | y :: ys, j :: js, h, k + 1, y', j', e1, e2 => h.2.at k y' j' (by simpa using e1) (by simpa using e2)
theorem CapOk.len {X : Cx} : ∀ {caps : List Str} {js : List Nat}, CapOk X caps js → js.length = caps.length
  | [], [], _ => rfl
  | [], _ :: _, h => False.elim h
  | _ :: _, [], h => False.elim h
  | _ :: _, _ :: _, h => by simp [h.2.len]
structure BlkScope (X : Cx) (scope : Scope) (own caps : List Str) (js : List Nat) : Prop where
  kind : scope.kind = .function
  nocell : ∀ y ∈ scope.names, y.2 ≠ .cell
  names : ∀ y ∈ scope.names, y.2 = .local → scope.names.lookup y.1 = some .local
  nd : (own ++ caps).Nodup
  own : ∀ y ∈ own, scope.names.lookup y = some .local
  capf : ∀ y ∈ caps, (y, NameKind.free) ∈ scope.names ∧ scope.names.lookup y = some .free
  capO : CapOk X caps js
  free : ∀ y ∈ scope.names, y.2 = .free → y.1 ∈ caps

def blk (X : Cx) (N' : List Str) (scope : Scope) (C : Addr) (s : Shared) (H : Hp) (fp : List Addr) : Cx :=
  { X with N := N', s₀ := s, H₀ := H, env := compEnvC scope (clOf X.env.cells scope.names []) C X.env, outer := X.stack, ex := fp, fn := fun _ => false, pn := [], xe := fun _ _ => False }
def capsOf (js : List Nat) (σ : St) : St := js.map fun j => (σ[j]?).join

section
variable {X : Cx} {pins : List (Addr × Obj)} {σ : St} {H H' : Hp} {s : Shared} {scope : Scope} {own caps : List Str} {js : List Nat} {fp : List Addr}

theorem BlkScope.cells (B : BlkScope X scope own caps js) (ok : X.Ok) : ∀ y ∈ scope.names, y.2 = .free → ∃ c, X.env.cells.lookup y.1 = some c := fun y hy hf => by
  obtain ⟨k, hk⟩ := List.getElem?_of_mem (B.free y hy hf)
  have hj : k < js.length := by rw [B.capO.len]; exact (List.getElem?_eq_some_iff.mp hk).1
  obtain ⟨_, h⟩ := B.capO.at k y.1 js[k] hk (by simp [hj])
  exact ok.has y.1 h

/-- the block's state at its entry -/
theorem inv_blk (B : BlkScope X scope own caps js) (I : Inv X pins σ H s) (hf : ∀ b ∈ fp, FpOk X pins H b) (ho : ∀ b ∈ fp, b < s.heap.objs.size) {h4 : Heap} {tk : Nat}
    (hn : h4.Ns (s.heap.objs.size + 1) (fun _ => none)) (hk : ∀ b o, s.heap.get? b = some o → h4.get? b = some o)
    (hl : h4.get? s.heap.objs.size = some { cls := .type "list", data := .seq ([] : List Value).toArray 0 }) :
    Inv (blk X (own ++ caps) scope (s.heap.objs.size + 1) s H fp) [] (own.map (fun _ => none) ++ capsOf js σ) (upd H s.heap.objs.size (.lst [])) { s with heap := h4, toks := tk } := by
  have fresh : H s.heap.objs.size = none := I.hok.fresh (Nat.le_refl _)
  have freshC : H (s.heap.objs.size + 1) = none := I.hok.fresh (Nat.le_succ _)
  have hcl := B.cells I.ok
  have sub := clOf_sub (acc := []) hcl (fun x c e => by simp at e)
  have ok' : (blk X (own ++ caps) scope (s.heap.objs.size + 1) s H fp).Ok := by
    refine ⟨I.ok.mod, B.kind, I.ok.glob, I.ok.blt, Nat.le_succ _, fun x y c h1 h2 => I.ok.inj x y c (sub x c h1) (sub y c h2), fun x hx => ?_, fun x c hx => (nomatch hx), I.ok.hd, I.ok.frames, .inl rfl, fun b hb => ⟨?_, fun x c e => ?_⟩, I.bs, Nat.le_trans I.ok.bsz I.sz, fun b o e hb => ?_, fun b hb hs => ?_, I.stack, I.stkFree⟩
    · have hx' : ∃ k', (scope.names.map fun (n, k) => if (k == NameKind.free && X.env.scope.kind == .function && X.env.kindOf n == some .cell) then (n, NameKind.cell) else (n, k)).lookup x = some k' ∧ (k' = .cell ∨ k' = .free) := by
        rcases hx with e | e
        · exact ⟨_, e, .inl rfl⟩
        · exact ⟨_, e, .inr rfl⟩
      obtain ⟨k', e, hk'⟩ := hx'
      obtain ⟨k, hm, q⟩ := unlook_relabel e
      have hfree : k = .free := by
        rcases q with q | q
        · subst q
          rcases hk' with z | z
          · exact absurd z (B.nocell _ hm)
          · exact z
        · exact q
      subst hfree
      exact clOf_has hm
    · exact Nat.ne_of_lt (Nat.lt_succ_of_lt (ho b hb))
    · exact (hf b hb).2.2.2.2.1 x c (sub x c e)
    · rcases (hf b hb).2.2.2.1 with z | z
      · exact I.ok.noex b o e z
      · exact absurd (Nat.lt_of_lt_of_le (Heap.lt_size e) (Nat.le_trans I.ok.bsz z)) (Nat.lt_irrefl _)
    · rcases List.mem_cons.mp (I.stkSub b hs) with z | z
      · exact (hf b hb).2.1 z
      · exact (hf b hb).2.2.1 z
  refine ⟨ok', rfl, I.bare, Un.laid hk (Nat.le_refl _) fresh, ⟨_, hn, fun i x v e1 e2 e3 => ?_⟩, fun x c e => ?_, ?_, fun x c e => ?_, fun p hp => absurd (show p ∈ ([] : List (Addr × Obj)) from hp) (by simp), I.hok.laid hk (Nat.le_refl _) ⟨Nat.zero_le _, [], 0, .nil, hl⟩, ?_⟩
  · have e1 : (own ++ caps)[i]? = some x := e1
    have hi : ¬ i < own.length := fun hi => by
      rw [List.getElem?_append_left (by simpa using hi), List.getElem?_map] at e2
      cases q : own[i]? with
      | none => rw [q] at e2; cases e2
      | some y => rw [q] at e2; cases e2
    rw [List.getElem?_append_right (by simpa using hi)] at e2
    rw [List.getElem?_append_right (by simpa using hi)] at e1
    rw [List.length_map] at e2
    unfold capsOf at e2
    rw [List.getElem?_map] at e2
    cases q : js[i - own.length]? with
    | none => rw [q] at e2; cases e2
    | some j =>
      rw [q] at e2
      have e2 : (σ[j]?).join = some v := by simpa using e2
      have e2' : σ[j]? = some (some v) := by
        cases z : σ[j]? with
        | none => rw [z] at e2; cases e2
        | some w => rw [z] at e2; simpa using e2
      obtain ⟨c1, c2⟩ := B.capO.at _ x j e1 q
      obtain ⟨m, _, hl'⟩ := I.loc
      obtain ⟨u, r, lk⟩ := hl' j x v c1 e2' (c2.elim (fun z => .inr (.inl z)) fun z => .inr (.inr z))
      refine ⟨u, r, ?_⟩
      rcases lk with ⟨z, _⟩ | ⟨_, c, ec, cell⟩
      · have z : X.env.scope.names.lookup x = some .local := z
        rcases c2 with c2 | c2 <;> (rw [c2] at z; cases z)
      · have hfr := B.capf x (List.mem_of_getElem? e1)
        obtain ⟨k', ek, pk⟩ := lookup_relabel (env := X.env) (P := fun k => k = .cell ∨ k = .free) (fun _ => .inl rfl) hfr.2 (.inr rfl)
        refine .inr ⟨?_, c, ?_, ?_⟩
        · rcases pk with rfl | rfl
          · exact .inl ek
          · exact .inr ek
        · obtain ⟨c', e'⟩ := clOf_has (cells := X.env.cells) (acc := []) hfr.1
          have := sub x c' e'
          rw [ec] at this
          cases this
          exact e'
        · obtain ⟨oo, ho', hd'⟩ := cell
          exact ⟨oo, hk _ _ ho', hd'⟩
  · obtain ⟨v, oo, ho', hd'⟩ := I.cell x c (sub x c e)
    exact ⟨v, oo, hk _ _ ho', hd'⟩
  · show (upd H s.heap.objs.size (.lst [])) (s.heap.objs.size + 1) = none
    rw [upd_ne (Nat.succ_ne_self _)]; exact freshC
  · obtain ⟨v, oo, ho', hd'⟩ := I.cell x c (sub x c e)
    rw [upd_ne (Nat.ne_of_lt (Heap.lt_size ho'))]
    exact I.freeC x c (sub x c e)
  · show _ = (own ++ caps).length
    unfold capsOf
    rw [List.length_append, List.length_append, List.length_map, List.length_map, B.capO.len]

/-- back from the block -/
theorem inv_back {C : Addr} {σ' : St} {pl : List (Addr × Obj)} {s' : Shared} {h' : Heap} (I : Inv X pins σ H s) (hf : ∀ b ∈ fp, FpOk X pins H b) (I' : Inv (blk X (own ++ caps) scope C s H fp) pl σ' H' s') (hC : s.heap.objs.size ≤ C) (hs : Heap.SameBut C s'.heap h') :
    Inv X pins σ H' { s' with heap := h' } := by
  have neC : ∀ b o, s.heap.get? b = some o → b ≠ C := fun b o e => Nat.ne_of_lt (Nat.lt_of_lt_of_le (Heap.lt_size e) hC)
  have freeC : H' C = none := I'.free
  have b' : Un (frs X.stack) fp H H' s.heap s'.heap := I'.base
  refine I.call' (s' := { s' with heap := h' }) (ch := fp) I'.os ⟨fun b o e n hb hx => (hs.2 b (neC b o e)).trans (b'.keep b o e n hb hx), fun b o e n hb hx => ?_, b'.free, fun b o e hx => ?_, b'.tups, b'.frzs, b'.tbls⟩ (fun b ob e => ?_) I'.bare fun b hb => ?_
  · obtain ⟨sl, e1⟩ := b'.slot b o e n hb hx
    exact ⟨sl, (hs.2 b (neC b o e)).trans e1⟩
  · obtain ⟨o', e1⟩ := b'.there b o e hx
    exact ⟨o', (hs.2 b (neC b o e)).trans e1⟩
  · refine (I'.hok b ob e).stay (fun c w' hc q => (hs.2 c ?_).trans q) (fun _ q => q) fun _ _ q => q
    rintro rfl
    rcases hc with rfl | hc
    · rw [freeC] at e; cases e
    · rw [freeC] at hc; cases hc
  · exact ⟨(hf b hb).2.2.2.1, (hf b hb).2.1, (hf b hb).2.2.2.2.1, (hf b hb).2.2.2.2.2⟩
end

/-! ### the loop -/
/-- what can't raise goes on under any ending -/
theorem sure {α : Type} {M : Model} {A : Around} {m : Sem α} {P Q : α → Shared → Prop} {E : Value → Shared → Prop} {s : Shared} (h : wpAny M A m P (fun _ _ => False) s) (k : ∀ a s, P a s → Q a s) : wpAny M A m Q E s := wpAny_mono h k fun _ _ f => f.elim

/-- the tests -/
def PTs (X : Cx) (ifs : List Expr) (t : TT) : Prop := ∀ (pins : List (Addr × Obj)) (s : Shared) (σ : St) (H : Hp) (Q : Bool → Hp → Prop), Inv X pins σ H s → t σ H Q →
  wpAny (model X.prog X.w) X.A (forIn ifs true fun c r => if r = true then do let ok ← isTrue c X.env (eval c X.env); pure (ForInStep.yield ok) else pure (ForInStep.yield r)) (TP X pins σ Q) X.xe s
theorem pts_nil {X : Cx} : PTs X [] (fun _ H Q => Q true H) := fun pins s σ H Q I h => wpAny_tests_nil ⟨H, I, h⟩
theorem pts_one {X : Cx} {c : Expr} {t : TT} (h : PT X c t) : PTs X [c] t := fun pins s σ H Q I q => wpAny_tests_one (h pins s σ H Q I q)

/-- W: the invariant by the turn, a measure and what has been laid by -/
def tComp (wi : TI) (n : Nat) (js : List Nat) (g : TG) (tc : Nat → TT) (te : Nat → TE) : TE := fun σ H Q => wi σ H fun J H1 => ∀ l, H1 l = none →
  ∃ W : Nat → Nat → List V → Hp → Prop, (∃ m, W 0 m [] (upd H1 l (.lst []))) ∧ ∀ i m xs H ow, ow.length = n → W i m xs H → H l = some (.lst xs) ∧
    ((J.stop i H ∧ Q (.ref l) H) ∨ (J.go i H ∧ ∀ x H', J.yld i H x H' → g x (ow ++ capsOf js σ) H' fun σ2 H2 => (∃ ow', ow'.length = n ∧ σ2 = ow' ++ capsOf js σ) ∧
      tc i σ2 H2 fun b H3 => if b = true then te i σ2 H3 fun y H4 => H4 l = some (.lst xs) ∧ xs.length < sizeLine ∧ ∃ m', m' < m ∧ W (i + 1) m' (xs ++ [y]) (upd H4 l (.lst (xs ++ [y])))
        else ∃ m', m' < m ∧ W (i + 1) m' xs H3))

/-- the block runs; behind it the outer state, and the block's own frame, which nobody else knows -/
def CompEnd (X : Cx) (pins : List (Addr × Obj)) (σ : St) (Q : VK) (acc : Value) (C : Addr) (s' : Shared) : Prop :=
  ∃ v H', Inv X pins σ H' s' ∧ RelV v acc ∧ Q v H' ∧ (∃ m, s'.heap.Ns C m) ∧ FpOk X pins H' C
theorem comp_core {X : Cx} {elt tg iter : Expr} {ifs : List Expr} {scope : Scope} {pos : Pos} {own caps : List Str} {js : List Nat} {g : TG} {tc : Nat → TT} {te : Nat → TE} (hc : X.calm = true) (B : BlkScope X scope own caps js)
    (hg : ∀ C s H fp, PG (blk X (own ++ caps) scope C s H fp) tg g) (ht : ∀ C s H fp i, PTs (blk X (own ++ caps) scope C s H fp) ifs (tc i)) (he : ∀ C s H fp i, PE (blk X (own ++ caps) scope C s H fp) elt (te i))
    {pins : List (Addr × Obj)} {σ : St} {Q : VK} {itv : Value} {s2 : Shared} {RR : Value → Addr → Result → Shared → Prop} (hRR : ∀ acc C s', CompEnd X pins σ Q acc C s' → RR acc C (.ok .next) s')
    (h2 : PIE X pins σ tg (fun J H1 => ∀ l, H1 l = none →
      ∃ W : Nat → Nat → List V → Hp → Prop, (∃ m, W 0 m [] (upd H1 l (.lst []))) ∧ ∀ i m xs H ow, ow.length = own.length → W i m xs H → H l = some (.lst xs) ∧
        ((J.stop i H ∧ Q (.ref l) H) ∨ (J.go i H ∧ ∀ x H', J.yld i H x H' → g x (ow ++ capsOf js σ) H' fun σ2 H2 => (∃ ow', ow'.length = own.length ∧ σ2 = ow' ++ capsOf js σ) ∧
          tc i σ2 H2 fun b H3 => if b = true then te i σ2 H3 fun y H4 => H4 l = some (.lst xs) ∧ xs.length < sizeLine ∧ ∃ m', m' < m ∧ W (i + 1) m' (xs ++ [y]) (upd H4 l (.lst (xs ++ [y])))
            else ∃ m', m' < m ∧ W (i + 1) m' xs H3))) itv s2) :
    wpAny (model X.prog X.w) X.A (newList []) (fun acc s₃ => wpAny (model X.prog X.w) X.A (newFunctionEnv scope X.env.globals (clOf X.env.cells scope.names []) [] X.env.qual none .none (some X.env)) (fun cenv s₄ =>
      codeAny (model X.prog X.w) X.A (.compStart (.ListComp elt [⟨tg, iter, ifs, 0⟩] scope pos) 0 itv acc { cenv with scope := relabel scope X.env }) (RR acc cenv.locals) s₄) X.xe s₃) X.xe s2 := by
  obtain ⟨it, fp, tn, J, H2, e, I2, TT, st2, f2, q⟩ := h2
  subst e
  have fresh : H2 s2.heap.objs.size = none := I2.hok.fresh (Nat.le_refl _)
  obtain ⟨W, ⟨m0, w0⟩, turn⟩ := q s2.heap.objs.size fresh
  have hlt : ∀ b ∈ fp, b < s2.heap.objs.size := fun b hb => let ⟨o, e, _⟩ := TT.obj _ _ st2 b hb; Heap.lt_size e
  refine wpAny_newObj_type (wpAny_newFunctionEnv B.nocell (by intro y hy; simp at hy) (fun h₁ hns₁ hsb₁ => ?_) B.kind)
  dsimp only at hns₁ hsb₁ ⊢
  generalize hH2 : s2.heap.push { cls := .type "list", dict := none, data := .seq ([] : List Value).toArray } = H3 at hns₁ hsb₁ ⊢
  have hC : H3.objs.size = s2.heap.objs.size + 1 := by rw [← hH2, Heap.size_push]
  have old : ∀ b o, s2.heap.get? b = some o → h₁.get? b = some o := fun b o e => hsb₁.extBut b o (by rw [hC]; exact Nat.ne_of_lt (Nat.lt_succ_of_lt (Heap.lt_size e))) (Heap.get?_push_of_some _ (hH2 ▸ Heap.get?_push_of_some _ e))
  have hacc : h₁.get? s2.heap.objs.size = some { cls := .type "list", data := .seq ([] : List Value).toArray 0 } :=
    hsb₁.extBut _ _ (by rw [hC]; exact Nat.ne_of_lt (Nat.lt_succ_self _)) (Heap.get?_push_of_some _ (hH2 ▸ Heap.get?_push_size _ rfl))
  have hns : h₁.Ns (s2.heap.objs.size + 1) (fun _ => none) := by rw [← hC]; exact hns₁
  have I4 : ∀ tk, Inv (blk X (own ++ caps) scope (s2.heap.objs.size + 1) s2 H2 fp) [] (own.map (fun _ => none) ++ capsOf js σ) (upd H2 s2.heap.objs.size (.lst [])) { s2 with heap := h₁, toks := tk } := fun tk => inv_blk B I2 f2 hlt hns old hacc
  rw [hC]
  -- what stays of the iterator
  have stat : ∀ {H' : Hp}, (∀ b ∈ fp, H' b = none) → ∀ b ∈ fp, FpOk (blk X (own ++ caps) scope (s2.heap.objs.size + 1) s2 H2 fp) [] H' b := fun {H'} hn b hb => by
    have F := (I4 0).ok
    exact ⟨hn b hb, (F.exf b hb).1, F.exfs b hb, .inl hb, (F.exf b hb).2, fun p hp => absurd (show p ∈ ([] : List (Addr × Obj)) from hp) (by simp)⟩
  have loop : ∀ s3 : Shared, s3 = { s2 with heap := h₁, toks := s2.toks + ([] : List (Str × Value)).length } →
      codeAny (model X.prog X.w) X.A (.compLoop (.ListComp elt [⟨tg, iter, ifs, 0⟩] scope pos) 0 (.ref it) (.ref s2.heap.objs.size) (compEnvC scope (clOf X.env.cells scope.names []) (s2.heap.objs.size + 1) X.env))
        (RR (.ref s2.heap.objs.size) (s2.heap.objs.size + 1)) s3 := by
    rintro s3 rfl
    refine codeAny_loop rfl (fun n s' => ∃ i xs ow H', ow.length = own.length ∧ Inv (blk X (own ++ caps) scope (s2.heap.objs.size + 1) s2 H2 fp) [] (ow ++ capsOf js σ) H' s' ∧ tn i s'.heap ∧ (∀ b ∈ fp, H' b = none) ∧ W i n xs H') ?_ m0
      ⟨0, [], own.map (fun _ => none), _, by simp, I4 _, TT.keep _ _ _ st2 fun b _ o e => old b o e, fun b hb => by rw [upd_ne (Nat.ne_of_lt (hlt b hb))]; exact (f2 b hb).1, w0⟩
    rintro n s4 ⟨i, xs, ow, H4, how, I5, st4, fr4, w4⟩
    obtain ⟨hl4, q4⟩ := turn i n xs H4 ow how w4
    refine wpAny_noted ?_
    refine cast (congrArg (fun m => wpAny (model X.prog X.w) X.A m _ _ s4) (compTurn_list _ _ _ _ _ _ _ _ _).symm) ?_
    refine wpAny_bind (wpAny_standAt (wpAny_bind ?_))
    rcases q4 with ⟨stop, qn⟩ | ⟨go, step⟩
    · refine sure (TT.done (blk X (own ++ caps) scope (s2.heap.objs.size + 1) s2 H2 fp) rfl rfl rfl hc i [] s4 _ H4 _ I5 (stat fr4) st4 stop) fun r s6 ⟨hr, I6⟩ => ?_
      subst hr
      obtain ⟨m, hm, _⟩ := I6.loc
      refine wpAny_pure (hRR _ _ _ ⟨.ref s2.heap.objs.size, H4, inv_back I2 f2 I6 (Nat.le_succ _) (Heap.SameBut.refl ..), rfl, qn, ⟨m, hm⟩, I2.fpOk (Nat.le_succ _) I6.free⟩)
    · refine sure (TT.item (blk X (own ++ caps) scope (s2.heap.objs.size + 1) s2 H2 fp) rfl rfl rfl hc i [] s4 _ H4 (fun _ _ => False) I5 (stat fr4) st4 go) fun r s6 ⟨u, hr, h6⟩ => ?_
      subst hr
      refine wpAny_bind (sure h6 fun _ s7 ⟨x, H7, I7, r7, y7, st7, fr7⟩ => ?_)
      have I7' := I7.pinned (stat fr7) (TT.obj _ _ st7)
      refine wpAny_bind (sure (hg _ _ _ _ _ s7 _ H7 x u _ I7' r7 (step x H7 y7)) fun _ s8 ⟨σ8, H8, I8, ⟨ow', how', eσ⟩, q8⟩ => ?_)
      subst eσ
      refine wpAny_bind (sure (ht _ _ _ _ i _ s8 _ H8 _ I8 q8) fun b s9 ⟨H9, I9, q9⟩ => ?_)
      have again : ∀ {H10 : Hp} {s10 : Shared}, Inv (blk X (own ++ caps) scope (s2.heap.objs.size + 1) s2 H2 fp) ([] ++ pinsAt fp s7.heap) (ow' ++ capsOf js σ) H10 s10 → tn (i + 1) s10.heap ∧ ∀ b ∈ fp, H10 b = none := fun {H10 s10} I10 => by
        refine ⟨TT.keep _ _ _ st7 fun b hb o e => (I10.pin (b, o) (List.mem_append_right _ (List.mem_append_right _ (mem_pinsAt hb e)))).1, fun b hb => ?_⟩
        obtain ⟨o, e, d⟩ := TT.obj _ _ st7 b hb
        exact (I10.pin (b, o) (List.mem_append_right _ (List.mem_append_right _ (mem_pinsAt hb e)))).2.1
      cases b with
      | false =>
        rw [if_neg Bool.false_ne_true] at q9
        obtain ⟨m', hm, w9⟩ := q9
        exact wpAny_pure ⟨rfl, m', hm, i + 1, xs, ow', H9, how', I9.unpinned, (again I9).1, (again I9).2, w9⟩
      | true =>
        rw [if_pos rfl] at q9
        refine wpAny_bind (wpAny_bind (sure (he _ _ _ _ i _ s9 _ H9 _ I9 q9) fun y s10 ⟨z, H10, I10, r10, hl10, hz, m', hm, w10⟩ => wpAny_bind ?_))
        refine sure (mt_append _ s10 _ H10 (.ref s2.heap.objs.size) [z] (.ref s2.heap.objs.size) [y] (fun _ H' => H' = upd H10 s2.heap.objs.size (.lst (xs ++ [z]))) I10 rfl (.cons r10 .nil) ⟨_, xs, z, rfl, rfl, hl10, hz, rfl⟩) fun _ s11 ⟨_, H11, I11, _, e11⟩ => ?_
        subst e11
        exact wpAny_pure (wpAny_pure ⟨rfl, m', hm, i + 1, xs ++ [z], ow', _, how', I11.unpinned, (again I11).1, (again I11).2, w10⟩)
  exact codeAny_compStart_list (loop _ rfl) (TT.self _ 0 _ _ _ (TT.keep _ _ _ st2 fun b _ o e => old b o e) (loop _ rfl))

theorem away {X : Cx} {pins : List (Addr × Obj)} {σ : St} {H : Hp} {s : Shared} {C : Addr} {h' : Heap} (I : Inv X pins σ H s) (f : FpOk X pins H C) (hs : Heap.SameBut C s.heap h') : Inv X pins σ H { s with heap := h' } :=
  I.turned (t' := s.toks) (fun b o hb e => (hs.2 b hb).trans e) f.1 f.2.1 f.2.2.2.1 f.2.2.2.2.1 f.2.2.2.2.2

theorem pe_comp {X : Cx} {elt tg iter : Expr} {ifs : List Expr} {scope : Scope} {pos : Pos} {wi : TI} {own caps : List Str} {js : List Nat} {g : TG} {tc : Nat → TT} {te : Nat → TE} (hc : X.calm = true) (B : BlkScope X scope own caps js) (hi : PI X tg iter wi)
    (hg : ∀ C s H fp, PG (blk X (own ++ caps) scope C s H fp) tg g) (ht : ∀ C s H fp i, PTs (blk X (own ++ caps) scope C s H fp) ifs (tc i)) (he : ∀ C s H fp i, PE (blk X (own ++ caps) scope C s H fp) elt (te i))
    (hs : ∀ x, foldedSetIterable iter X.env x = pure x := by intro _; rfl) : PE X (.ListComp elt [⟨tg, iter, ifs, 0⟩] scope pos) (tComp wi own.length js g tc te) := by
  intro pins s σ H Q I h
  rw [eval_ListComp]
  refine wpAny_comprehension_free (use := none) rfl hs (closure_of (B.cells I.ok)) B.kind B.names (thn (hi pins s σ H _ I h) fun v s1 h1 => thn h1 fun itv s2 h2 => ?_)
  refine comp_core (RR := fun acc C => compPost (model X.prog X.w) X.A X.xe none (EP X pins σ Q) acc C) hc B hg ht he (fun acc C s' ⟨v, H', I', r, q, ⟨m, hm⟩, f⟩ => ?_) h2
  exact ⟨m, hm, fun h' hs' => ⟨v, H', away I' f hs', r, q⟩⟩
/-- y = [..], y a local name: stored ahead of the block's end -/
theorem ps_comp {X : Cx} {elt tg iter : Expr} {ifs : List Expr} {scope : Scope} {pos spos py : Pos} {wi : TI} {own caps : List Str} {js : List Nat} {g : TG} {tc : Nat → TT} {te : Nat → TE} {y : Str} {k : Nat} (hN : X.N.Nodup) (hk : X.N[k]? = some y) (hy : Loc X.env.scope y)
    (hc : X.calm = true) (B : BlkScope X scope own caps js) (hi : PI X tg iter wi)
    (hg : ∀ C s H fp, PG (blk X (own ++ caps) scope C s H fp) tg g) (ht : ∀ C s H fp i, PTs (blk X (own ++ caps) scope C s H fp) ifs (tc i)) (he : ∀ C s H fp i, PE (blk X (own ++ caps) scope C s H fp) elt (te i))
    (hsw : swapsWith (.ListComp elt [⟨tg, iter, ifs, 0⟩] scope pos) (some (.Name y py)) spos.line X.env = pure true) (hf : X.fn y = true ∨ X.env.scope.names.lookup y = some .local)
    (hs : ∀ x, foldedSetIterable iter X.env x = pure x := by intro _; rfl) : PS X (.Assign [.Name y py] (.ListComp elt [⟨tg, iter, ifs, 0⟩] scope pos) spos) (tAsg (tComp wi own.length js g tc te) (gName k)) := by
  intro pins s σ H D I h
  rw [exec_Assign_Name_used _ _ _ _ hsw]
  refine wpAny_bind (wpAny_standAt (wpAny_bind ?_))
  show wpAny _ X.A (do let _ ← comprehension (.ListComp elt [⟨tg, iter, ifs, 0⟩] scope pos) scope X.env _ (newList []) false (eval iter X.env) (some (assign (.Name y py) X.env))) _ _ s
  refine wpAny_bind (wpAny_mono (wpAny_comprehension_free (use := some (assign (.Name y py) X.env)) (Q := fun _ s' => SP X pins D .next s') rfl hs (closure_of (B.cells I.ok)) B.kind B.names
    (thn (hi pins s σ H _ I h) fun v s1 h1 => thn h1 fun itv s2 h2 => ?_)) (fun _ s' hq => wpAny_pure (wpAny_pure hq)) fun _ _ e => e)
  refine comp_core (RR := fun acc C => compPost (model X.prog X.w) X.A X.xe (some (assign (.Name y py) X.env)) (fun _ s' => SP X pins D .next s') acc C) (pins := pins) (σ := σ) (Q := fun v H' => D.nx (σ.set k (some v)) H') hc B hg ht he (fun acc C s' ⟨v, H', I', r, q, ⟨m, hm⟩, f⟩ => ?_) h2
  show wpAny _ X.A (assign (.Name y py) X.env acc) _ _ _
  refine wpAny_assign_Name (store_ok2 I' hN hk hy r (fun s'' I'' ⟨a, sb, ha⟩ => ?_) hf)
  have hCa : C ≠ a := by
    rcases ha with rfl | ha
    · exact f.2.1
    · exact fun z => f.2.2.2.2.1 y a ha z.symm
  exact ⟨m, hm.sameBut sb hCa, fun h' hs' => ⟨_, H', away I'' f hs', q⟩⟩
end Y
set_option Elab.async false
set_option linter.all false
set_option autoImplicit false
set_option maxRecDepth 100000
set_option maxHeartbeats 4000000
/-! WHAT IS WALKED, COMPREHENSIONS, CALLS -/
namespace Y
open PySem PySem.Spec PyProof.Rows L2
variable [Tabs]

/-- an iterator over sources yields these data -/
structure Yields (K : PySem.W.Frag) (J : It) (vs : List V) (srcs ds : List D) : Prop where
  go : ∀ (Z : Zone) H, Z.Open H → Ins K H Z srcs vs → ∀ (i : Nat) d, ds[i]? = some d → J.go i H ∧ ∀ x H2, J.yld i H x H2 → Same H H2 ∧ In K H2 Z d x
  stop : ∀ (Z : Zone) H, Z.Open H → Ins K H Z srcs vs → J.stop ds.length H
def tIT (K : PySem.W.Frag) (m : Bool) (ρ : List (Option D)) (ds : List D) : TI := fun σ H R => ∃ Z : Zone, Z.Open H ∧ EnvIn K H Z σ ρ ∧
  ∀ J H' vs srcs, Same H H' → Ins K H' (out m Z H) srcs vs → Yields K J vs srcs ds → R J H'
def IT (X : Cx) (tg : Expr) (m : Bool) (ρ : List (Option D)) (iter : Expr) (ds : List D) : Prop := PI X tg iter (tIT X.K m ρ ds)
theorem PI.mono {X : Cx} {tg iter : Expr} {t t' : TI} (h : PI X tg iter t) (k : ∀ σ H R, t' σ H R → t σ H R) : PI X tg iter t' := fun pins s σ H R I q => h pins s σ H R I (k σ H R q)

section
variable {X : Cx} {ρ : List (Option D)} {m m1 m2 : Bool} {tg e a b : Expr} {ds : List D} {d : D} {pos p : Pos}
theorem it_list (h : E X m ρ e (.lst ds)) : IT X tg m ρ e ds := PI.mono (pi_list h) fun σ H R ⟨Z, oz, en, k⟩ => ⟨Z, oz, en, fun v H1 s1 i1 => by
  obtain ⟨a, xs, rfl, l, j⟩ := in_lst.mp i1
  refine ⟨a, rfl, ⟨xs, l.sq⟩, k _ H1 [.ref a] [.lst ds] s1 (Ins.one i1) ⟨fun Z2 H2 o2 j2 i d e => ?_, fun Z2 H2 o2 j2 => ?_⟩⟩
  · obtain ⟨w, r, e1, j3, j4⟩ := ins_cons.mp j2
    cases e1
    obtain ⟨a', ys, e2, l2, j5⟩ := in_lst.mp j3
    cases e2
    obtain ⟨v, e3, iv⟩ := j5.get e
    refine ⟨⟨ys, v, l2.sq, e3⟩, fun x H3 ⟨e4, y⟩ => ?_⟩
    subst e4
    have := y ys l2.sq
    rw [e3] at this
    cases this
    exact ⟨Same.refl _, iv⟩
  · obtain ⟨w, r, e1, j3, j4⟩ := ins_cons.mp j2
    cases e1
    obtain ⟨a', ys, e2, l2, j5⟩ := in_lst.mp j3
    cases e2
    exact ⟨ys, l2.sq, Nat.le_of_eq j5.length.symm⟩⟩
def rangeD (lo : Int) (n : Nat) : List D := (List.range n).map fun i => D.int (lo + (i : Nat))
theorem rangeD_get {lo : Int} {n i : Nat} {d : D} (h : (rangeD lo n)[i]? = some d) : i < n ∧ d = .int (lo + i) := by
  unfold rangeD at h
  rw [List.getElem?_map] at h
  by_cases hi : i < n
  · rw [List.getElem?_range hi] at h
    exact ⟨hi, by simpa using h.symm⟩
  · rw [List.getElem?_eq_none (by simpa using hi)] at h
    cases h
theorem rangeD_len {lo : Int} {n : Nat} : (rangeD lo n).length = n := by simp [rangeD]
theorem yields_range {K : PySem.W.Frag} (lo : Int) (n : Nat) : Yields K (Itr lo n) [] [] (rangeD lo n) :=
  ⟨fun Z H _ _ i d e => by
    obtain ⟨hi, rfl⟩ := rangeD_get e
    refine ⟨hi, fun x H2 ⟨e1, e2⟩ => ?_⟩
    subst e1 e2
    exact ⟨Same.refl _, in_int.mpr rfl⟩, fun Z H _ _ => by rw [rangeD_len]; exact Nat.le_refl n⟩
theorem it_range {n : Int} (h : E X m1 ρ a (.int n)) (hn : n < 2 ^ 62) (hn2 : -(2 ^ 62) ≤ n) (hm : X.mg "range" = none) (hg : Gl X "range" := by rfl) (hs : starEach [a] X.env = [(false, eval a X.env)] := by rfl) :
    IT X tg m ρ (.Call (.Name "range" p) [a] [] pos) (rangeD 0 n.toNat) :=
  PI.mono (pi_range1 hg hm (pa_cons h pa_nil (by rw [hs]; rfl)) hs) fun σ H R ⟨Z, oz, en, k⟩ => ⟨Z, oz, en, fun v H1 s1 i1 => ⟨n, by rw [in_int.mp (i1.plain oz)], hn2, hn, k _ H1 [] [] s1 (ins_nil.mpr rfl) (yields_range 0 n.toNat)⟩⟩
/-! ### a text's signs -/
/-! ### a comprehension by data: p the test, f the element -/
def TS' (X : Cx) (ρ : List (Option D)) (ifs : List Expr) (b : Bool) : Prop := PTs X ifs (tB' X.K ρ b)
theorem ts_nil : TS' X ρ [] true := fun pins s σ H Q I ⟨Z, oz, en, k⟩ => pts_nil pins s σ H Q I (k H (Same.refl H))
theorem ts_one {p : Bool} (h : T X ρ e p) : TS' X ρ [e] p := pts_one h

/-- the block's data: its own names none, then what is captured -/
def capD (js : List Nat) (ρ : List (Option D)) : List (Option D) := js.map fun j => (ρ[j]?).join
theorem envIn_caps {K : PySem.W.Frag} {H : Hp} {Z : Zone} {σ : St} {js : List Nat} (en : EnvIn K H Z σ ρ) {ow : St} {ov : List (Option D)} (hl : ow.length = ov.length) (h : ∀ (i : Nat) d, ov[i]? = some (some d) → ∃ v, ow[i]? = some (some v) ∧ In K H Z d v) :
    EnvIn K H Z (ow ++ capsOf js σ) (ov ++ capD js ρ) := fun i d e => by
  by_cases hi : i < ov.length
  · rw [List.getElem?_append_left hi] at e
    rw [List.getElem?_append_left (by omega)]
    exact h i d e
  · rw [List.getElem?_append_right (by omega)] at e
    rw [List.getElem?_append_right (by omega), hl]
    unfold capD at e
    unfold capsOf
    rw [List.getElem?_map] at e ⊢
    cases q : js[i - ov.length]? with
    | none => rw [q] at e; cases e
    | some j =>
      rw [q] at e
      have e : (ρ[j]?).join = some d := by simpa using e
      have e' : ρ[j]? = some (some d) := by
        cases z : ρ[j]? with
        | none => rw [z] at e; cases e
        | some w => rw [z] at e; simpa using e
      obtain ⟨v, a, b⟩ := en j d e'
      exact ⟨v, by simp [a], b⟩

/-- a comprehension's tests and elements by data, turn by turn -/
def tcD (K : PySem.W.Frag) (js : List Nat) (ρ : List (Option D)) (ds : List D) (p : D → Bool) (i : Nat) : TT := fun σ H Q => ∃ d, ds[i]? = some d ∧ tB' K ([some d] ++ capD js ρ) (p d) σ H Q
def teD (K : PySem.W.Frag) (js : List Nat) (ρ : List (Option D)) (ds : List D) (p : D → Bool) (f : D → D) (me : Bool) (i : Nat) : TE := fun σ H Q => ∃ d, ds[i]? = some d ∧ p d = true ∧ tE K me ([some d] ++ capD js ρ) (f d) σ H Q
theorem comp_reads {js : List Nat} {me : Bool} (p : D → Bool) (f : D → D) (hz : ds.length ≤ sizeLine) (hm : m = true → me = true ∨ ∀ d ∈ ds, (f d).flat = true) (σ : St) (H : Hp) (Q : VK) (h : tE X.K m ρ (.lst ((ds.filter p).map f)) σ H Q) :
    tComp (tIT X.K m1 ρ ds) 1 js (gName 0) (tcD X.K js ρ ds p) (teD X.K js ρ ds p f me) σ H Q := by
  obtain ⟨Z, oz, en, k⟩ := h
  refine ⟨Z, oz, en, fun J H1 vs srcs s1 i1 Y l hl => ?_⟩
  have hlH : H l = none := s1.free hl
  -- all zones without l
  have noL : ∀ {ds : List D} {vs : List V} {Z' : Zone} {Ha Hb : Hp}, Ha l = none → Same Ha Hb → Ins X.K Ha Z' ds vs → Ins X.K Hb ⟨Z'.m, fun a => Z'.S a ∧ a ≠ l⟩ ds vs := fun {ds vs Z' Ha Hb} ha sa h => Ins.carry (Z' := ⟨Z'.m, fun a => Z'.S a ∧ a ≠ l⟩) (Carry.of sa (fun a zs e z => ⟨z, ne_of_none e ha⟩) fun m => m) h
  have noL1 : ∀ {d : D} {v : V} {Z' : Zone} {Ha Hb : Hp}, Ha l = none → Same Ha Hb → In X.K Ha Z' d v → In X.K Hb ⟨Z'.m, fun a => Z'.S a ∧ a ≠ l⟩ d v := fun {d v Z' Ha Hb} ha sa h => In.carry (Z' := ⟨Z'.m, fun a => Z'.S a ∧ a ≠ l⟩) (Carry.of sa (fun a zs e z => ⟨z, ne_of_none e ha⟩) fun m => m) h
  refine ⟨fun i n xs H' => n = ds.length - i ∧ i ≤ ds.length ∧ Same H1 H' ∧ H' l = some (.lst xs) ∧ xs.length ≤ i ∧ Ins X.K H' ⟨(out m Z H).m, fun a => (out m Z H).S a ∧ a ≠ l⟩ (((ds.take i).filter p).map f) xs, ⟨ds.length, by simp, Nat.zero_le _, same_new hl, upd_same, Nat.zero_le _, by simp; exact ins_nil.mpr rfl⟩, ?_⟩
  rintro i n xs H' ow how ⟨rfl, hi', s1', hl', hxi, jx⟩
  refine ⟨hl', ?_⟩
  have srcsZ : Ins X.K H1 Z srcs vs := by
    cases m1
    · exact i1
    · exact i1.up oz
  let Zl : Zone := ⟨Z.m, fun a => Z.S a ∧ a ≠ l⟩
  have opl : ∀ {Ha : Hp} {o : HO}, Same H Ha → Ha l = some o → Zl.Open Ha := fun sa e => ⟨fun a ha => ⟨oz.op a (sa.free ha), by rintro rfl; rw [e] at ha; cases ha⟩, sa.tabs oz.tb⟩
  by_cases hlt : i < ds.length
  · have hd : ds[i]? = some ds[i] := by simp [hlt]
    obtain ⟨go, yl⟩ := Y.go Zl H' (opl (s1.trans s1') hl') (noL hl s1' srcsZ) i ds[i] hd
    refine .inr ⟨go, fun y H2 hy => ?_⟩
    obtain ⟨s2, iy⟩ := yl y H2 hy
    have hl2 : H2 l = some (.lst xs) := s2.at hl'
    have sH2 : Same H H2 := (s1.trans s1').trans s2
    obtain ⟨w, rfl⟩ : ∃ w, ow = [w] := by
      match ow, how with
      | [w], _ => exact ⟨w, rfl⟩
    have en2 : EnvIn X.K H2 Zl ([some y] ++ capsOf js σ) ([some ds[i]] ++ capD js ρ) := envIn_caps (fun i d e => let ⟨v, a, b⟩ := en i d e; ⟨v, a, noL1 hlH sH2 b⟩) rfl fun i d e => by
      match i, e with
      | 0, e => cases e; exact ⟨y, rfl, iy⟩
    refine ⟨⟨[some y], rfl, rfl⟩, ds[i], hd, Zl, opl sH2 hl2, en2, fun H3 s3 => ?_⟩
    have hl3 : H3 l = some (.lst xs) := s3.at hl2
    have st : (ds.take (i + 1)).filter p = (ds.take i).filter p ++ (if p ds[i] then [ds[i]] else []) := take_succ_filter p ds i ds[i] hd
    cases hp : p ds[i] with
    | false =>
      refine iteF ?_
      refine ⟨ds.length - (i + 1), by omega, rfl, hlt, (s1'.trans s2).trans s3, hl3, by omega, ?_⟩
      rw [st, hp]
      simp only [Bool.false_eq_true, if_false, List.append_nil]
      exact jx.same (s2.trans s3)
    | true =>
      refine iteT ?_
      refine ⟨ds[i], hd, hp, Zl, opl (sH2.trans s3) hl3, en2.same s3, fun v H4 s4 iv => ?_⟩
      have hl4 : H4 l = some (.lst xs) := s4.at hl3
      refine ⟨hl4, by omega, ds.length - (i + 1), by omega, rfl, hlt, ((s1'.trans s2).trans (s3.trans s4)).write hl hl4, upd_same, by rw [List.length_append]; simp; omega, ?_⟩
      · rw [st, hp]
        simp only [if_true, List.map_append, List.map_cons, List.map_nil]
        have n : ¬ (⟨(out m Z H).m, fun a => (out m Z H).S a ∧ a ≠ l⟩ : Zone).S l := fun z => z.2 rfl
        refine Ins.append ((jx.same (s2.trans (s3.trans s4))).carry (.write hl4 n)) (Ins.one ?_)
        refine In.carry (.write hl4 n) ?_
        cases m with
        | false => exact iv.plain (opl (sH2.trans s3) hl3)
        | true =>
          rcases hm rfl with h | h
          · subst h
            exact In.carry (Z := nw H3) (Z' := ⟨true, fun a => H a = none ∧ a ≠ l⟩) ⟨fun a zs e z => ⟨e, (sH2.trans s3).free z, by rintro rfl; have z : H3 a = none := z; rw [hl3] at z; cases z⟩, fun m => nwF m, fun _ _ e => e⟩ iv
          · exact iv.flat' (h _ (List.getElem_mem hlt))
  · have e : i = ds.length := by omega
    subst e
    refine .inl ⟨Y.stop Zl H' (opl (s1.trans s1') hl') (noL hl s1' srcsZ), k (.ref l) H' (s1.trans s1') (in_lst.mpr ⟨l, xs, rfl, .inl ⟨hl', ?_⟩, ?_⟩)⟩
    · cases m
      · exact oz l hlH
      · exact hlH
    · rw [List.take_length] at jx
      exact Ins.carry (Z := ⟨(out m Z H).m, fun a => (out m Z H).S a ∧ a ≠ l⟩) (Z' := out m Z H) (Carry.of (Same.refl H') (fun a zs e z => And.left z) fun m => m) jx
/-- a comprehension: its value, and the statement that stores it -/
structure EC (X : Cx) (m : Bool) (ρ : List (Option D)) (e : Expr) (d : D) : Prop where
  val : E X m ρ e d
  s : ∀ (y : Str) (k : Nat) (spos py : Pos), X.N.Nodup → X.N[k]? = some y → Loc X.env.scope y → swapsWith e (some (.Name y py)) spos.line X.env = pure true → (X.fn y = true ∨ X.env.scope.names.lookup y = some .local) → PS X (.Assign [.Name y py] e spos) (tAsg (tE X.K m ρ d) (gName k))
theorem EC.cast {d' : D} (h : EC X m ρ e d) (q : d = d') : EC X m ρ e d' := q ▸ h
theorem PS.mono' {X : Cx} {st : Stmt} {t t' : TS} (h : PS X st t) (k : ∀ Q σ H, t' Q σ H → t Q σ H) : PS X st t' := fun pins s σ H Q I q => h pins s σ H Q I (k Q σ H q)
/-- [elt for x in iter if ..], x a name -/
theorem ec_comp {elt iter : Expr} {x : Str} {px : Pos} {ifs : List Expr} {scope : Scope} {me : Bool} (caps : List Str) (js : List Nat) (p : D → Bool) (f : D → D) (hi : IT X (.Name x px) m1 ρ iter ds)
    (ht : ∀ C s H fp d, d ∈ ds → TS' (blk X ([x] ++ caps) scope C s H fp) ([some d] ++ capD js ρ) ifs (p d)) (he : ∀ C s H fp d, d ∈ ds → p d = true → E (blk X ([x] ++ caps) scope C s H fp) me ([some d] ++ capD js ρ) elt (f d))
    (hz : ds.length ≤ sizeLine) (hm : m = true → me = true ∨ ∀ d ∈ ds, (f d).flat = true := by intro h; first | exact .inl h | cases h) (hc : X.calm = true := by rfl)
    (B : BlkScope X scope [x] caps js := by exact ⟨rfl, by decide, by decide, by decide, by decide, by decide, by repeat (first | exact trivial | refine ⟨⟨rfl, by first | exact .inl rfl | exact .inr rfl⟩, ?_⟩), by decide⟩)
    (hs : ∀ x, foldedSetIterable iter X.env x = pure x := by intro _; rfl) : EC X m ρ (.ListComp elt [⟨.Name x px, iter, ifs, 0⟩] scope pos) (.lst ((ds.filter p).map f)) := by
  have hg : ∀ C s H fp, PG (blk X ([x] ++ caps) scope C s H fp) (.Name x px) (gName 0) := fun C s H fp => pg_name (i := 0) B.nd rfl (.inl (lookup_relabel_local (B.own x (by simp)))) (.inr (lookup_relabel_local (B.own x (by simp))))
  have ht' : ∀ C s H fp i, PTs (blk X ([x] ++ caps) scope C s H fp) ifs (tcD X.K js ρ ds p i) := fun C s H fp i pins s' σ H' Q I h => by
    obtain ⟨d, hd, h⟩ := h
    exact ht C s H fp d (List.mem_of_getElem? hd) pins s' σ H' Q I h
  have he' : ∀ C s H fp i, PE (blk X ([x] ++ caps) scope C s H fp) elt (teD X.K js ρ ds p f me i) := fun C s H fp i pins s' σ H' Q I h => by
    obtain ⟨d, hd, hp, h⟩ := h
    exact he C s H fp d (List.mem_of_getElem? hd) hp pins s' σ H' Q I h
  refine ⟨PE.mono (pe_comp (own := [x]) (caps := caps) hc B hi hg ht' he' hs) fun σ H Q h => comp_reads p f hz hm σ H Q h, fun y k spos py hN hk hy hsw hf => ?_⟩
  exact PS.mono' (ps_comp (own := [x]) (caps := caps) hN hk hy hc B hi hg ht' he' hsw hf hs) fun Q σ H h => comp_reads p f hz hm σ H _ h
theorem e_comp {elt iter : Expr} {x : Str} {px : Pos} {ifs : List Expr} {scope : Scope} {me : Bool} (caps : List Str) (js : List Nat) (p : D → Bool) (f : D → D) (hi : IT X (.Name x px) m1 ρ iter ds)
    (ht : ∀ C s H fp d, d ∈ ds → TS' (blk X ([x] ++ caps) scope C s H fp) ([some d] ++ capD js ρ) ifs (p d)) (he : ∀ C s H fp d, d ∈ ds → p d = true → E (blk X ([x] ++ caps) scope C s H fp) me ([some d] ++ capD js ρ) elt (f d))
    (hz : ds.length ≤ sizeLine) (hm : m = true → me = true ∨ ∀ d ∈ ds, (f d).flat = true := by intro h; first | exact .inl h | cases h) (hc : X.calm = true := by rfl)
    (B : BlkScope X scope [x] caps js := by exact ⟨rfl, by decide, by decide, by decide, by decide, by decide, by repeat (first | exact trivial | refine ⟨⟨rfl, by first | exact .inl rfl | exact .inr rfl⟩, ?_⟩), by decide⟩)
    (hs : ∀ x, foldedSetIterable iter X.env x = pure x := by intro _; rfl) : E X m ρ (.ListComp elt [⟨.Name x px, iter, ifs, 0⟩] scope pos) (.lst ((ds.filter p).map f)) := (ec_comp caps js p f hi ht he hz hm hc B hs).val
theorem ec_map {elt iter : Expr} {x : Str} {px : Pos} {scope : Scope} {me : Bool} (caps : List Str) (js : List Nat) (f : D → D) (hi : IT X (.Name x px) m1 ρ iter ds)
    (he : ∀ C s H fp d, d ∈ ds → E (blk X ([x] ++ caps) scope C s H fp) me ([some d] ++ capD js ρ) elt (f d)) (hz : ds.length ≤ sizeLine) (hm : m = true → me = true ∨ ∀ d ∈ ds, (f d).flat = true := by intro h; first | exact .inl h | cases h) (hc : X.calm = true := by rfl)
    (B : BlkScope X scope [x] caps js := by exact ⟨rfl, by decide, by decide, by decide, by decide, by decide, by repeat (first | exact trivial | refine ⟨⟨rfl, by first | exact .inl rfl | exact .inr rfl⟩, ?_⟩), by decide⟩)
    (hs : ∀ x, foldedSetIterable iter X.env x = pure x := by intro _; rfl) : EC X m ρ (.ListComp elt [⟨.Name x px, iter, [], 0⟩] scope pos) (.lst (ds.map f)) := by
  have h := ec_comp (m := m) (pos := pos) caps js (fun _ => true) f hi (fun C s H fp d hd => ts_nil) (fun C s H fp d hd _ => he C s H fp d hd) hz hm hc B hs
  rwa [List.filter_eq_self.mpr fun _ _ => rfl] at h
theorem e_map {elt iter : Expr} {x : Str} {px : Pos} {scope : Scope} {me : Bool} (caps : List Str) (js : List Nat) (f : D → D) (hi : IT X (.Name x px) m1 ρ iter ds)
    (he : ∀ C s H fp d, d ∈ ds → E (blk X ([x] ++ caps) scope C s H fp) me ([some d] ++ capD js ρ) elt (f d)) (hz : ds.length ≤ sizeLine) (hm : m = true → me = true ∨ ∀ d ∈ ds, (f d).flat = true := by intro h; first | exact .inl h | cases h) (hc : X.calm = true := by rfl)
    (B : BlkScope X scope [x] caps js := by exact ⟨rfl, by decide, by decide, by decide, by decide, by decide, by repeat (first | exact trivial | refine ⟨⟨rfl, by first | exact .inl rfl | exact .inr rfl⟩, ?_⟩), by decide⟩)
    (hs : ∀ x, foldedSetIterable iter X.env x = pure x := by intro _; rfl) : E X m ρ (.ListComp elt [⟨.Name x px, iter, [], 0⟩] scope pos) (.lst (ds.map f)) := by
  have h := e_comp (m := m) (pos := pos) caps js (fun _ => true) f hi (fun C s H fp d hd => ts_nil) (fun C s H fp d hd _ => he C s H fp d hd) hz hm hc B hs
  rwa [List.filter_eq_self.mpr fun _ _ => rfl] at h
end
end Y
set_option Elab.async false
set_option linter.all false
set_option autoImplicit false
set_option maxRecDepth 100000
set_option maxHeartbeats 4000000
/-! STATEMENTS BY DATA: a name holds a datum (pl), or a list that is its own (ow), or a list of lists that are its own (ow2) -/
namespace Y
open PySem PySem.Spec PyProof.Rows L2
variable [Tabs]

/-! ### a tree: all its lists, each once -/
mutual
def Tr (K : PySem.W.Frag) (H : Hp) : D → V → List Addr → Prop
  | .lst ds, v, as => ∃ a xs bs, v = .ref a ∧ as = a :: bs ∧ H a = some (.lst xs) ∧ Trs K H ds xs bs
  | .tup ds, v, as => ∃ a xs, v = .ref a ∧ H a = some (.tup xs) ∧ Trs K H ds xs as
  | .non, v, as => as = [] ∧ v = .non
  | .bl b, v, as => as = [] ∧ v = .bl b
  | .int i, v, as => as = [] ∧ v = .int i
  | .str x, v, as => as = [] ∧ v = .str x
  | .dct _, _, _ => False
  | .ktup ks, v, as => as = [] ∧ ∃ a, v = .ref a ∧ KTup K a ks
def Trs (K : PySem.W.Frag) (H : Hp) : List D → List V → List Addr → Prop
  | [], xs, as => xs = [] ∧ as = []
  | d :: ds, xs, as => ∃ v r bs cs, xs = v :: r ∧ as = bs ++ cs ∧ Tr K H d v bs ∧ Trs K H ds r cs
end
section
variable {K : PySem.W.Frag} {H H' : Hp} {Z : Zone}
theorem tr_lst {ds : List D} {v : V} {as : List Addr} : Tr K H (.lst ds) v as ↔ ∃ a xs bs, v = .ref a ∧ as = a :: bs ∧ H a = some (.lst xs) ∧ Trs K H ds xs bs := by unfold Tr; exact Iff.rfl
theorem tr_tup {ds : List D} {v : V} {as : List Addr} : Tr K H (.tup ds) v as ↔ ∃ a xs, v = .ref a ∧ H a = some (.tup xs) ∧ Trs K H ds xs as := by unfold Tr; exact Iff.rfl
theorem trs_nil {xs : List V} {as : List Addr} : Trs K H [] xs as ↔ xs = [] ∧ as = [] := by unfold Trs; exact Iff.rfl
theorem trs_cons {d : D} {ds : List D} {xs : List V} {as : List Addr} : Trs K H (d :: ds) xs as ↔ ∃ v r bs cs, xs = v :: r ∧ as = bs ++ cs ∧ Tr K H d v bs ∧ Trs K H ds r cs := by
  constructor
  · intro h; unfold Trs at h; exact h
  · intro h; unfold Trs; exact h
mutual
theorem Tr.carry (t : ∀ a (xs : List V), H a = some (.tup xs) → H' a = some (.tup xs)) : ∀ {d : D} {v : V} {as : List Addr}, (∀ a (xs : List V), a ∈ as → H a = some (.lst xs) → H' a = some (.lst xs)) → Tr K H d v as → Tr K H' d v as
  | .non, _, _, _, h => by unfold Tr at h ⊢; exact h
  | .bl _, _, _, _, h => by unfold Tr at h ⊢; exact h
  | .int _, _, _, _, h => by unfold Tr at h ⊢; exact h
  | .str _, _, _, _, h => by unfold Tr at h ⊢; exact h
  | .dct _, _, _, _, h => by unfold Tr at h; exact h.elim
  | .ktup _, _, _, _, h => by unfold Tr at h ⊢; exact h
  | .lst ds, _, _, k, h => by
    obtain ⟨a, xs, bs, e, rfl, ha, i⟩ := tr_lst.mp h
    exact tr_lst.mpr ⟨a, xs, bs, e, rfl, k a xs List.mem_cons_self ha, Trs.carry t (fun b ys hb => k b ys (List.mem_cons_of_mem _ hb)) i⟩
  | .tup ds, _, _, k, h => by
    obtain ⟨a, xs, e, ha, i⟩ := tr_tup.mp h
    exact tr_tup.mpr ⟨a, xs, e, t a xs ha, Trs.carry t k i⟩
theorem Trs.carry (t : ∀ a (xs : List V), H a = some (.tup xs) → H' a = some (.tup xs)) : ∀ {ds : List D} {vs : List V} {as : List Addr}, (∀ a (xs : List V), a ∈ as → H a = some (.lst xs) → H' a = some (.lst xs)) → Trs K H ds vs as → Trs K H' ds vs as
  | [], _, _, _, h => trs_nil.mpr (trs_nil.mp h)
  | d :: ds, _, _, k, h => by
    obtain ⟨v, r, bs, cs, e, rfl, i, j⟩ := trs_cons.mp h
    exact trs_cons.mpr ⟨v, r, bs, cs, e, rfl, Tr.carry t (fun b ys hb => k b ys (List.mem_append_left _ hb)) i, Trs.carry t (fun b ys hb => k b ys (List.mem_append_right _ hb)) j⟩
end
mutual
theorem Tr.inn : ∀ {d : D} {v : V} {as : List Addr}, (∀ a ∈ as, Z.S a) → Tr K H d v as → In K H Z d v
  | .non, _, _, _, h => by unfold Tr at h; exact in_non.mpr h.2
  | .bl _, _, _, _, h => by unfold Tr at h; exact in_bl.mpr h.2
  | .int _, _, _, _, h => by unfold Tr at h; exact in_int.mpr h.2
  | .str _, _, _, _, h => by unfold Tr at h; exact in_str.mpr h.2
  | .dct _, _, _, _, h => by unfold Tr at h; exact h.elim
  | .ktup _, _, _, _, h => by unfold Tr at h; exact in_ktup.mpr h.2
  | .lst ds, _, _, k, h => by
    obtain ⟨a, xs, bs, e, rfl, ha, i⟩ := tr_lst.mp h
    exact in_lst.mpr ⟨a, xs, e, .inl ⟨ha, k a List.mem_cons_self⟩, Trs.inn (fun b hb => k b (List.mem_cons_of_mem _ hb)) i⟩
  | .tup ds, _, _, k, h => by
    obtain ⟨a, xs, e, ha, i⟩ := tr_tup.mp h
    exact in_tup.mpr ⟨a, xs, e, ha, Trs.inn k i⟩
theorem Trs.inn : ∀ {ds : List D} {vs : List V} {as : List Addr}, (∀ a ∈ as, Z.S a) → Trs K H ds vs as → Ins K H Z ds vs
  | [], _, _, _, h => ins_nil.mpr (trs_nil.mp h).1
  | d :: ds, _, _, k, h => by
    obtain ⟨v, r, bs, cs, e, rfl, i, j⟩ := trs_cons.mp h
    exact ins_cons.mpr ⟨v, r, e, Tr.inn (fun b hb => k b (List.mem_append_left _ hb)) i, Trs.inn (fun b hb => k b (List.mem_append_right _ hb)) j⟩
end
end

inductive Slot where
  | pl (fr : Bool) (d : D)
  | ow (fr : Bool) (ds : List D)
  | ow2 (fr : Bool) (dss : List (List D))
  | oa (d : D)
  | sh (p : D → Prop)
  | owl (l : Addr) (fr : Bool) (ds : List D)
  | od (o : DO)
  | rf (v : V)
  | tr (d : D)
  | trl (u : V) (d : D)
abbrev Rho := List (Option Slot)
/-- a def's run: m, all that it hands back is new; the zone of what was handed in; the heap at its entry -/
structure Fn where
  m : Bool
  Z : Zone
  H : Hp
/-- the zone of a name's lists: fr, new since the entry; none is another name's own -/
def zn (F : Fn) (O : Addr → Prop) (fr : Bool) : Zone := if fr then ⟨true, fun a => F.H a = none ∧ ¬ O a⟩ else ⟨F.Z.m, fun a => F.Z.S a ∧ ¬ O a⟩
def RowsAt (K : PySem.W.Frag) (H : Hp) (Z : Zone) (dss : List (List D)) (as : List Addr) : Prop := Paired (fun ds a => ∃ xs, H a = some (.lst xs) ∧ Ins K H Z ds xs) dss as
def SlotIn (K : PySem.W.Frag) (F : Fn) (H : Hp) (O : Addr → Prop) (mine : List Addr) (v : V) : Slot → Prop
  | .pl fr d => In K H (zn F O fr) d v
  | .ow fr ds => ∃ l xs, mine = [l] ∧ v = .ref l ∧ H l = some (.lst xs) ∧ Ins K H (zn F O fr) ds xs
  | .ow2 fr dss => ∃ l as, mine = l :: as ∧ v = .ref l ∧ H l = some (.lst (as.map V.ref)) ∧ RowsAt K H (zn F O fr) dss as
  | .oa d => In K H ⟨true, fun a => a ∈ mine⟩ d v
  | .sh p => ∃ d, p d ∧ In K H ⟨true, fun a => a ∈ mine⟩ d v
  | .owl l fr ds => ∃ xs, mine = [l] ∧ v = .ref l ∧ H l = some (.lst xs) ∧ Ins K H (zn F O fr) ds xs
  | .od o => ∃ l, mine = [l] ∧ v = .ref l ∧ H l = some o.ho
  | .rf u => v = u
  | .tr d => Tr K H d v mine
  | .trl u d => v = u ∧ Tr K H d v mine
abbrev Owned (A : Nat → List Addr) (a : Addr) : Prop := ∃ j, a ∈ A j
structure StIn (K : PySem.W.Frag) (F : Fn) (H : Hp) (vs : St) (ρ : Rho) (A : Nat → List Addr) : Prop where
  same : Same F.H H
  opn : F.Z.Open F.H
  nd : ∀ i, (A i).Nodup
  one : ∀ i j a, a ∈ A i → a ∈ A j → i = j
  new : ∀ i a, a ∈ A i → F.H a = none
  lst : ∀ i a, a ∈ A i → ∃ xs : MO, H a = some xs.ho
  at' : ∀ (i : Nat) sl, ρ[i]? = some (some sl) → ∃ v, vs[i]? = some (some v) ∧ SlotIn K F H (Owned A) (A i) v sl

section
variable {K : PySem.W.Frag} {F : Fn} {H H' : Hp} {vs : St} {ρ : Rho} {A : Nat → List Addr} {O O' : Addr → Prop} {fr : Bool}
theorem RowsAt.carry {Z Z' : Zone} {dss : List (List D)} {as : List Addr} (h : RowsAt K H Z dss as) (k : ∀ a xs, a ∈ as → H a = some (.lst xs) → H' a = some (.lst xs)) (c : Carry K H Z H' Z') : RowsAt K H' Z' dss as := by
  induction h with
  | nil => exact .nil
  | cons r t ih =>
    obtain ⟨xs, e, i⟩ := r
    exact .cons ⟨xs, k _ xs (by simp) e, i.carry c⟩ (ih fun a xs ha e => k a xs (by simp [ha]) e)
/-- zones shrink by what becomes a name's own: what is tracked keeps its place if it is not that -/
theorem carry_zn (s : Same H H') (hO : ∀ a (xs : MO), H a = some xs.ho → ¬ O a → ¬ O' a) : Carry K H (zn F O fr) H' (zn F O' fr) := by
  unfold zn
  cases fr
  · exact .of s (fun a xs e z => ⟨z.1, hO a xs e z.2⟩) fun m => m
  · exact .of s (fun a xs e z => ⟨z.1, hO a xs e z.2⟩) fun m => m
theorem SlotIn.carry {mine : List Addr} {v : V} {sl : Slot} (h : SlotIn K F H O mine v sl) (k : ∀ a (xs : MO), a ∈ mine → H a = some xs.ho → H' a = some xs.ho) (c : ∀ fr, Carry K H (zn F O fr) H' (zn F O' fr)) : SlotIn K F H' O' mine v sl := by
  cases sl with
  | pl fr d => exact In.carry (c fr) h
  | ow fr ds =>
    obtain ⟨l, xs, rfl, e, hl, i⟩ := h
    exact ⟨l, xs, rfl, e, k l (.l xs) (by simp) hl, i.carry (c fr)⟩
  | ow2 fr dss =>
    obtain ⟨l, as, rfl, e, hl, i⟩ := h
    exact ⟨l, as, rfl, e, k l (.l _) (by simp) hl, i.carry (fun a xs ha q => k a (.l xs) (by simp [ha]) q) (c fr)⟩
  | oa d => exact In.carry ⟨fun a xs e z => ⟨k a xs z e, z⟩, fun m => Bool.noConfusion (show true = false from m), (c true).t⟩ h
  | sh p =>
    obtain ⟨d, hp, i⟩ := h
    exact ⟨d, hp, i.carry ⟨fun a xs e z => ⟨k a xs z e, z⟩, fun m => Bool.noConfusion (show true = false from m), (c true).t⟩⟩
  | owl l fr ds =>
    obtain ⟨xs, rfl, e, hl, i⟩ := h
    exact ⟨xs, rfl, e, k l (.l xs) (by simp) hl, i.carry (c fr)⟩
  | od o =>
    obtain ⟨l, rfl, e, hl⟩ := h
    exact ⟨l, rfl, e, k l (.d o) (by simp) hl⟩
  | rf u => exact h
  | tr d => exact Tr.carry (c true).t (fun a xs ha e => k a (.l xs) ha e) h
  | trl u d => exact ⟨h.1, Tr.carry (c true).t (fun a xs ha e => k a (.l xs) ha e) h.2⟩
theorem StIn.grow (S : StIn K F H vs ρ A) (s : Same H H') : StIn K F H' vs ρ A :=
  ⟨S.same.trans s, S.opn, S.nd, S.one, S.new, fun i a ha => let ⟨xs, e⟩ := S.lst i a ha; ⟨xs, s.at e xs.nt⟩, fun i sl e => let ⟨v, a, b⟩ := S.at' i sl e; ⟨v, a, b.carry (fun a xs _ q => s.at q xs.nt) fun fr => carry_zn s fun a xs _ n => n⟩⟩
theorem zn_open (S : StIn K F H vs ρ A) (fr : Bool) : (zn F (Owned A) fr).Open H := ⟨fun a h => by
  have n : ¬ Owned A a := fun ⟨j, hj⟩ => by obtain ⟨xs, e⟩ := S.lst j a hj; rw [h] at e; cases e
  unfold zn
  cases fr
  · exact ⟨S.opn.op a (S.same.free h), n⟩
  · exact ⟨S.same.free h, n⟩, S.same.tabs S.opn.tb⟩
/-- the zone where a name's own lists are seen too -/
def vz (F : Fn) (O : Addr → Prop) (ow fr : Bool) : Zone := if ow then (if fr then nw F.H else F.Z) else zn F O fr
theorem vz_open (S : StIn K F H vs ρ A) (ow fr : Bool) : (vz F (Owned A) ow fr).Open H := by
  unfold vz
  cases ow
  · exact zn_open S fr
  · cases fr
    · exact S.opn.same S.same
    · exact nw_open S.opn.tb S.same
def viewS (ow fr : Bool) : Option Slot → Option D
  | some (.pl f d) => if fr && !f then none else some d
  | some (.ow f ds) => if ow && (!fr || f) then some (.lst ds) else none
  | some (.ow2 f dss) => if ow && (!fr || f) then some (.lst (dss.map .lst)) else none
  | some (.oa d) => if ow then some d else none
  | some (.sh _) => none
  | some (.owl _ _ _) => none
  | some (.od o) => if ow then some (.dct o) else none
  | some (.rf _) => none
  | some (.tr d) => if ow then some d else none
  | some (.trl _ d) => if ow then some d else none
  | none => none
/-- what the names hold, as data: ow, own lists too; fr, only what is new -/
def view (ow fr : Bool) (ρ : Rho) : List (Option D) := ρ.map (viewS ow fr)
theorem zn_vz (op : F.Z.Open F.H) {f ow : Bool} (hf : fr = true → f = true) : Carry K H (zn F O f) H (vz F O ow fr) := by
  refine .of (Same.refl H) (fun a xs e z => ?_) fun m => ?_
  · unfold vz zn at *
    cases ow <;> cases fr <;> cases f <;> simp at hf z ⊢ <;> first
      | exact z
      | exact z.1
      | exact ⟨op a z.1, z.2⟩
      | exact op a z.1
  · unfold vz zn at *
    cases ow <;> cases fr <;> cases f <;> simp at hf m ⊢ <;> exact m
theorem ins_rows {Z Z' : Zone} {dss : List (List D)} {as : List Addr} (h : RowsAt K H Z dss as) (c : Carry K H Z H Z') (n : ∀ a ∈ as, Z'.S a) : Ins K H Z' (dss.map D.lst) (as.map V.ref) := by
  induction h with
  | nil => exact ins_nil.mpr rfl
  | cons r t ih =>
    obtain ⟨xs, e, i⟩ := r
    exact ins_cons.mpr ⟨_, _, rfl, in_lst.mpr ⟨_, xs, rfl, .inl ⟨e, n _ (by simp)⟩, i.carry c⟩, ih fun a ha => n a (by simp [ha])⟩
theorem slot_view (op : F.Z.Open F.H) {mine : List Addr} {v : V} {sl : Slot} {ow : Bool} {d : D} (new : ∀ a ∈ mine, F.H a = none) (h : SlotIn K F H O mine v sl) (e : viewS ow fr (some sl) = some d) : In K H (vz F O ow fr) d v := by
  have inS : ow = true → ∀ a ∈ mine, (vz F O ow fr).S a := fun ho a ha => by
    subst ho
    unfold vz
    cases fr
    · exact op a (new a ha)
    · exact new a ha
  cases sl with
  | pl f d' =>
    change (if (fr && !f) = true then none else some d') = some d at e
    by_cases q : (fr && !f) = true
    · rw [if_pos q] at e; cases e
    · rw [if_neg q] at e
      cases e
      refine In.carry (zn_vz op fun hf => ?_) h
      subst hf
      simpa using q
  | ow f ds =>
    change (if (ow && (!fr || f)) = true then some (D.lst ds) else none) = some d at e
    by_cases q : (ow && (!fr || f)) = true
    · rw [if_pos q] at e
      cases e
      obtain ⟨l, xs, rfl, rfl, hl, i⟩ := h
      simp at q
      refine in_lst.mpr ⟨l, xs, rfl, .inl ⟨hl, inS q.1 l (by simp)⟩, i.carry (zn_vz op fun hf => ?_)⟩
      subst hf
      simpa using q.2
    · rw [if_neg q] at e; cases e
  | ow2 f dss =>
    change (if (ow && (!fr || f)) = true then some (D.lst (dss.map D.lst)) else none) = some d at e
    by_cases q : (ow && (!fr || f)) = true
    · rw [if_pos q] at e
      cases e
      obtain ⟨l, as, rfl, rfl, hl, i⟩ := h
      simp at q
      refine in_lst.mpr ⟨l, _, rfl, .inl ⟨hl, inS q.1 l (by simp)⟩, ins_rows i (zn_vz op fun hf => ?_) fun a ha => inS q.1 a (by simp [ha])⟩
      subst hf
      simpa using q.2
    · rw [if_neg q] at e; cases e
  | oa d' =>
    change (if ow = true then some d' else none) = some d at e
    by_cases q : ow = true
    · rw [if_pos q] at e
      cases e
      exact In.carry ⟨fun a xs e z => ⟨e, inS q a z⟩, fun m => Bool.noConfusion (show true = false from m), fun _ _ e => e⟩ h
    · rw [if_neg q] at e; cases e
  | sh p => cases e
  | owl l f ds => cases e
  | rf u => cases e
  | tr d' =>
    change (if ow = true then some d' else none) = some d at e
    by_cases q : ow = true
    · rw [if_pos q] at e
      cases e
      exact Tr.inn (inS q) h
    · rw [if_neg q] at e; cases e
  | trl u d' =>
    change (if ow = true then some d' else none) = some d at e
    by_cases q : ow = true
    · rw [if_pos q] at e
      cases e
      exact Tr.inn (inS q) h.2
    · rw [if_neg q] at e; cases e
  | od o =>
    change (if ow = true then some (D.dct o) else none) = some d at e
    by_cases q : ow = true
    · rw [if_pos q] at e
      cases e
      obtain ⟨l, rfl, rfl, hl⟩ := h
      exact in_dct.mpr ⟨l, rfl, hl, inS q l (by simp)⟩
    · rw [if_neg q] at e; cases e
theorem StIn.env {σ hv : St} {hρ : Rho} (S : StIn K F H (σ ++ hv) (ρ ++ hρ) A) (hl : σ.length = ρ.length) (ow fr : Bool) : EnvIn K H (vz F (Owned A) ow fr) σ (view ow fr ρ) := fun i d e => by
  unfold view at e
  rw [List.getElem?_map] at e
  cases q : ρ[i]? with
  | none => rw [q] at e; cases e
  | some o =>
    rw [q] at e
    cases o with
    | none => simp [viewS] at e
    | some sl =>
      have hi : i < ρ.length := (List.getElem?_eq_some_iff.mp q).1
      obtain ⟨v, a, b⟩ := S.at' i sl (by rw [List.getElem?_append_left hi]; exact q)
      rw [List.getElem?_append_left (by omega)] at a
      exact ⟨v, a, slot_view S.opn (S.new i) b (by simpa using e)⟩

/-! ### a slot is written -/
def putA (A : Nat → List Addr) (i : Nat) (l : List Addr) : Nat → List Addr := fun j => if j = i then l else A j
theorem putA_same {i : Nat} {l : List Addr} : putA A i l i = l := by unfold putA; rw [if_pos rfl]
theorem putA_ne {i j : Nat} {l : List Addr} (h : j ≠ i) : putA A i l j = A j := by unfold putA; rw [if_neg h]
/-- what is no name's own stands, and is no name's own still -/
theorem carry_re {i : Nat} {l : List Addr} {H2 : Hp} (S : StIn K F H vs ρ A) (k : ∀ b o, H b = some o → isT o = false → b ∉ A i → H2 b = some o) (hl : ∀ a ∈ l, a ∈ A i ∨ H a = none) (fr : Bool) : Carry K H (zn F (Owned A) fr) H2 (zn F (Owned (putA A i l)) fr) := by
  have notI : ∀ {a : Addr} {o : HO}, H a = some o → (∀ xs : MO, o ≠ xs.ho) → a ∉ A i := fun {a o} e n z => by
    obtain ⟨xs, e'⟩ := S.lst i a z
    rw [e] at e'
    exact n xs (Option.some.inj e')
  refine ⟨fun a xs e z => ?_, fun m => ⟨?_, fun a xs e => ?_⟩, fun a xs e => ?_⟩
  · have key : ¬ Owned A a → H2 a = some xs.ho ∧ ¬ Owned (putA A i l) a := fun n => ⟨k a _ e xs.nt fun z => n ⟨i, z⟩, fun ⟨k', hk⟩ => by
      by_cases q2 : k' = i
      · rw [q2, putA_same] at hk
        rcases hl a hk with z | z
        · exact n ⟨i, z⟩
        · rw [e] at z; cases z
      · rw [putA_ne q2] at hk
        exact n ⟨k', hk⟩⟩
    unfold zn at z ⊢
    cases fr
    · exact ⟨(key z.2).1, z.1, (key z.2).2⟩
    · exact ⟨(key z.2).1, z.1, (key z.2).2⟩
  · unfold zn at m ⊢
    cases fr
    · exact m
    · exact m
  · rcases e with ⟨o, e⟩ | e
    · exact .inl ⟨o, k a _ e rfl (notI e fun xs z => xs.nfrz z.symm)⟩
    · exact .inr e
  · exact k a _ e rfl (notI e fun xs z => xs.ntup z.symm)
/-- the i-th name's own lists are written, new ones are made its own; nothing else is touched -/
theorem StIn.re {i : Nat} {v : V} {sl : Slot} {l : List Addr} {H2 : Hp} (S : StIn K F H vs ρ A) (hi : i < ρ.length) (hiv : i < vs.length) (sm : Same F.H H2) (k : ∀ b o, H b = some o → isT o = false → b ∉ A i → H2 b = some o) (nd : l.Nodup)
    (hl : ∀ a ∈ l, (a ∈ A i ∨ H a = none) ∧ ∃ xs : MO, H2 a = some xs.ho) (h : SlotIn K F H2 (Owned (putA A i l)) l v sl) : StIn K F H2 (vs.set i (some v)) (ρ.set i (some sl)) (putA A i l) := by
  have disj : ∀ j a, j ≠ i → a ∈ A j → a ∉ l := fun j a hj ha hal => by
    rcases (hl a hal).1 with z | z
    · exact hj (S.one j i a ha z)
    · obtain ⟨xs, e⟩ := S.lst j a ha; rw [z] at e; cases e
  refine ⟨sm, S.opn, fun j => ?_, fun j k' a hj hk => ?_, fun j a ha => ?_, fun j a ha => ?_, fun j sl' e => ?_⟩
  · by_cases q : j = i
    · rw [q, putA_same]; exact nd
    · rw [putA_ne q]; exact S.nd j
  · by_cases q : j = i
    · by_cases q2 : k' = i
      · rw [q, q2]
      · rw [q, putA_same] at hj; rw [putA_ne q2] at hk
        exact absurd hj (disj k' a q2 hk)
    · rw [putA_ne q] at hj
      by_cases q2 : k' = i
      · rw [q2, putA_same] at hk
        exact absurd hk (disj j a q hj)
      · rw [putA_ne q2] at hk
        exact S.one j k' a hj hk
  · by_cases q : j = i
    · rw [q, putA_same] at ha
      rcases (hl a ha).1 with z | z
      · exact S.new i a z
      · exact S.same.free z
    · rw [putA_ne q] at ha; exact S.new j a ha
  · by_cases q : j = i
    · rw [q, putA_same] at ha; exact (hl a ha).2
    · rw [putA_ne q] at ha
      obtain ⟨xs, e⟩ := S.lst j a ha
      exact ⟨xs, k a _ e xs.nt fun z => q (S.one j i a ha z)⟩
  · by_cases q : j = i
    · subst q
      rw [List.getElem?_set_self hi] at e
      cases e
      exact ⟨v, by rw [List.getElem?_set_self hiv], by rw [putA_same]; exact h⟩
    · rw [List.getElem?_set_ne (Ne.symm q)] at e
      obtain ⟨w, a, b⟩ := S.at' j sl' e
      refine ⟨w, by rw [List.getElem?_set_ne (Ne.symm q)]; exact a, ?_⟩
      rw [putA_ne q]
      exact b.carry (fun a xs ha e => k a _ e xs.nt fun z => q (S.one j i a ha z)) fun fr => carry_re S k (fun a ha => (hl a ha).1) fr
/-- the i-th name gets new lists of its own (perhaps none); what it held is forgotten -/
theorem StIn.put {i : Nat} {v : V} {sl : Slot} {l : List Addr} {H2 : Hp} (S : StIn K F H vs ρ A) (hi : i < ρ.length) (hiv : i < vs.length) (s : Same H H2) (nd : l.Nodup) (hl : ∀ a ∈ l, H a = none ∧ ∃ xs : MO, H2 a = some xs.ho)
    (h : SlotIn K F H2 (Owned (putA A i l)) l v sl) : StIn K F H2 (vs.set i (some v)) (ρ.set i (some sl)) (putA A i l) := S.re hi hiv (S.same.trans s) (fun b o e n _ => s.get b o e n) nd (fun a ha => ⟨.inr (hl a ha).1, (hl a ha).2⟩) h
theorem zn_drop {i : Nat} : Carry K H (zn F (Owned A) fr) H (zn F (Owned (putA A i [])) fr) := by
  have n : ∀ {P : Prop} {a : Addr}, P ∧ ¬ Owned A a → P ∧ ¬ Owned (putA A i []) a := fun {P a} z => ⟨z.1, fun ⟨k, hk⟩ => by
    by_cases q : k = i
    · rw [q, putA_same] at hk; simp at hk
    · rw [putA_ne q] at hk; exact z.2 ⟨k, hk⟩⟩
  refine .of (Same.refl _) (fun a xs e z => ?_) fun m => ?_
  · unfold zn at z ⊢
    cases fr
    · exact n z
    · exact n z
  · unfold zn at m ⊢
    cases fr
    · exact m
    · exact m
end

/-! ### the judgement -/
structure EndD where
  nx : Rho → Prop
  rt : D → Prop
  bk : Rho → Prop := fun _ => False
  ct : Rho → Prop := fun _ => False
  rtT : D → Prop := fun _ => False
def StOk (K : PySem.W.Frag) (F : Fn) (hv : St) (hρ : Rho) (N : Rho → Prop) (σ : St) (H : Hp) : Prop := ∃ ρ A, σ.length = ρ.length ∧ StIn K F H (σ ++ hv) (ρ ++ hρ) A ∧ N ρ
structure Fits (K : PySem.W.Frag) (F : Fn) (hv : St) (hρ : Rho) (Q : EndD) (Q' : Ends) : Prop where
  hl : hv.length = hρ.length
  nx : ∀ σ H, StOk K F hv hρ Q.nx σ H → Q'.nx σ H
  bk : ∀ σ H, StOk K F hv hρ Q.bk σ H → Q'.bk σ H
  ct : ∀ σ H, StOk K F hv hρ Q.ct σ H → Q'.ct σ H
  rt : ∀ v d H, Same F.H H → In K H (out F.m F.Z F.H) d v → Q.rt d → Q'.rt v H
  rtT : ∀ v d H as, Same F.H H → Tr K H d v as → as.Nodup → (∀ a ∈ as, F.H a = none) → Q.rtT d → Q'.rt v H
def tS (K : PySem.W.Frag) (F : Fn) (ρ : Rho) (Q : EndD) : TS := fun Q' σ H => ∃ hv hρ A, σ.length = ρ.length ∧ StIn K F H (σ ++ hv) (ρ ++ hρ) A ∧ Fits K F hv hρ Q Q'
def SD (X : Cx) (F : Fn) (st : List Stmt) (ρ : Rho) (Q : EndD) : Prop := PSs X st (tS X.K F ρ Q)
def SD1 (X : Cx) (F : Fn) (st : Stmt) (ρ : Rho) (Q : EndD) : Prop := PS X st (tS X.K F ρ Q)
theorem PS.mono {X : Cx} {st : Stmt} {t t' : TS} (h : PS X st t) (k : ∀ Q σ H, t' Q σ H → t Q σ H) : PS X st t' := fun pins s σ H Q I q => h pins s σ H Q I (k Q σ H q)
theorem PSs.mono {X : Cx} {st : List Stmt} {t t' : TS} (h : PSs X st t) (k : ∀ Q σ H, t' Q σ H → t Q σ H) : PSs X st t' := fun pins s σ H Q I q => h pins s σ H Q I (k Q σ H q)

section
variable {X : Cx} {F : Fn} {ρ : Rho} {Q : EndD} {st : Stmt} {rest body orelse : List Stmt} {e a c : Expr} {d : D} {pos p : Pos} {i : Nat} {x : Str} {fr m1 : Bool}
theorem Fits.step {K : PySem.W.Frag} {hv : St} {hρ : Rho} {Q' : Ends} {N : Rho → Prop} {n : St → Hp → Prop} (f : Fits K F hv hρ Q Q') (h : ∀ σ H, StOk K F hv hρ N σ H → n σ H) : Fits K F hv hρ { Q with nx := N } { Q' with nx := n } := ⟨f.hl, h, f.bk, f.ct, f.rt, f.rtT⟩
theorem sd_nil (h : Q.nx ρ) : SD X F [] ρ Q := PSs.mono pss_nil fun Q' σ H ⟨hv, hρ, A, hl, S, f⟩ => f.nx σ H ⟨ρ, A, hl, S, h⟩
theorem sd_seq {N : Rho → Prop} (h1 : SD1 X F st ρ { Q with nx := N }) (h2 : ∀ ρ', N ρ' → SD X F rest ρ' Q) : SD X F (st :: rest) ρ Q :=
  PSs.mono (pss_cons (u := fun Q' σ H => ∃ ρ', N ρ' ∧ tS X.K F ρ' Q Q' σ H) h1 fun pins s σ H Q' I ⟨ρ', n, t⟩ => h2 ρ' n pins s σ H Q' I t) fun Q' σ H ⟨hv, hρ, A, hl, S, f⟩ =>
    ⟨hv, hρ, A, hl, S, f.step fun σ' H' ⟨ρ', A', hl', S', n⟩ => ⟨ρ', n, hv, hρ, A', hl', S', f⟩⟩
/-- one statement that leaves one state -/
theorem sd_then {ρ' : Rho} (h1 : SD1 X F st ρ { Q with nx := fun r => r = ρ' }) (h2 : SD X F rest ρ' Q) : SD X F (st :: rest) ρ Q := sd_seq h1 fun r e => by subst e; exact h2
theorem set_app {α : Type} {l r : List α} {i : Nat} {v : α} (h : i < l.length) : (l ++ r).set i v = l.set i v ++ r := by
  rw [List.set_append_left _ _ h]

/-- storing a datum in a slot -/
theorem put_plA {K : PySem.W.Frag} {hv : St} {hρ : Rho} {σ : St} {H H1 : Hp} {A : Nat → List Addr} {v : V} (hl : σ.length = ρ.length) (S : StIn K F H (σ ++ hv) (ρ ++ hρ) A) (hi : i < ρ.length) (s : Same H H1) (h : In K H1 (zn F (Owned A) fr) d v) :
    StIn K F H1 (σ.set i (some v) ++ hv) (ρ.set i (some (.pl fr d)) ++ hρ) (putA A i []) := by
  rw [← set_app (by omega), ← set_app hi]
  exact S.put (by rw [List.length_append]; omega) (by rw [List.length_append]; omega) s List.nodup_nil (fun a ha => by simp at ha) (In.carry zn_drop h)
theorem put_pl {K : PySem.W.Frag} {hv : St} {hρ : Rho} {σ : St} {H H1 : Hp} {A : Nat → List Addr} {v : V} (hl : σ.length = ρ.length) (S : StIn K F H (σ ++ hv) (ρ ++ hρ) A) (hi : i < ρ.length) (s : Same H H1) (h : In K H1 (zn F (Owned A) fr) d v) :
    StOk K F hv hρ (fun r => r = ρ.set i (some (.pl fr d))) (σ.set i (some v)) H1 := ⟨_, putA A i [], by simp [hl], put_plA hl S hi s h, rfl⟩

/-- name = e: the datum's lists are none of another name's own -/
theorem sd_set (i : Nat) (fr : Bool) {x : Str} {d : D} (he : E X false (view false fr ρ) e d) (hr : SD X F rest (ρ.set i (some (.pl fr d))) Q) (hN : X.N.Nodup) (hi : X.N[i]? = some x := by rfl)
    (hx : Loc X.env.scope x := by first | exact Or.inl rfl | exact Or.inr rfl) (hρ : i < ρ.length := by exact of_decide_eq_true rfl) (hs : swapsWith e (some (.Name x p)) pos.line X.env = pure false := by rfl) (hf : X.fn x = true ∨ X.env.scope.names.lookup x = some .local := by first | exact .inl rfl | exact .inr rfl) :
    SD X F (.Assign [.Name x p] e pos :: rest) ρ Q :=
  sd_then (PS.mono (ps_set hN hi hx he hs hf) fun Q' σ H ⟨hv, hρ', A, hl, S, f⟩ => ⟨_, vz_open S false fr, S.env hl false fr, fun v H1 s1 i1 => f.nx _ H1 (put_pl hl S hρ s1 i1)⟩) hr
/-- name = e: all its lists are new -/
theorem sd_setN (i : Nat) {x : Str} {d : D} (he : E X true (view true false ρ) e d) (hr : SD X F rest (ρ.set i (some (.pl true d))) Q) (hN : X.N.Nodup) (hi : X.N[i]? = some x := by rfl)
    (hx : Loc X.env.scope x := by first | exact Or.inl rfl | exact Or.inr rfl) (hρ : i < ρ.length := by exact of_decide_eq_true rfl) (hs : swapsWith e (some (.Name x p)) pos.line X.env = pure false := by rfl) (hf : X.fn x = true ∨ X.env.scope.names.lookup x = some .local := by first | exact .inl rfl | exact .inr rfl) :
    SD X F (.Assign [.Name x p] e pos :: rest) ρ Q :=
  sd_then (PS.mono (ps_set hN hi hx he hs hf) fun Q' σ H ⟨hv, hρ', A, hl, S, f⟩ => ⟨_, vz_open S true false, S.env hl true false, fun v H1 s1 i1 => f.nx _ H1 (put_pl hl S hρ s1 (In.up (zn_open S true) i1))⟩) hr
/-- name = e, flat -/
theorem sd_setF (i : Nat) {x : Str} {d : D} (he : E X m1 (view true false ρ) e d) (fl : d.flat = true) (hr : SD X F rest (ρ.set i (some (.pl true d))) Q) (hN : X.N.Nodup) (hi : X.N[i]? = some x := by rfl)
    (hx : Loc X.env.scope x := by first | exact Or.inl rfl | exact Or.inr rfl) (hρ : i < ρ.length := by exact of_decide_eq_true rfl) (hs : swapsWith e (some (.Name x p)) pos.line X.env = pure false := by rfl) (hf : X.fn x = true ∨ X.env.scope.names.lookup x = some .local := by first | exact .inl rfl | exact .inr rfl) :
    SD X F (.Assign [.Name x p] e pos :: rest) ρ Q := sd_setN i (he.flat fl) hr hN hi hx hρ hs hf

/-- return e -/
theorem sd_ret (fr : Bool) {d : D} (he : E X m1 (view true fr ρ) e d) (h : Q.rt d) (hm : F.m = true → fr = true ∨ m1 = true := by intro h; first | exact .inl rfl | exact .inr rfl | cases h) : SD X F (.Return (some e) pos :: rest) ρ Q :=
  sd_seq (N := fun _ => False) (PS.mono (ps_ret he) fun Q' σ H ⟨hv, hρ, A, hl, S, f⟩ => ⟨_, vz_open S true fr, S.env hl true fr, fun v H1 s1 i1 => f.rt v d H1 (S.same.trans s1) (by
    have key : (F.m = true → In X.K H1 (nw F.H) d v) ∧ In X.K H1 F.Z d v := by
      cases m1 with
      | true =>
        have i2 : In X.K H1 (nw F.H) d v := In.later (m := true) (Z := F.Z) S.same i1
        exact ⟨fun _ => i2, i2.up S.opn⟩
      | false =>
        cases fr with
        | true =>
          have i2 : In X.K H1 (nw F.H) d v := i1
          exact ⟨fun _ => i2, i2.up S.opn⟩
        | false =>
          have i2 : In X.K H1 F.Z d v := i1
          exact ⟨fun h => (hm h).elim (fun z => (nomatch z)) (fun z => (nomatch z)), i2⟩
    cases hmm : F.m with
    | false => exact key.2
    | true => exact key.1 hmm) h⟩) fun _ n => n.elim
/-- if -/
theorem sd_if {b : Bool} (hc : T X (view true false ρ) c b) (h1 : b = true → SD X F body ρ { Q with nx := fun r => SD X F rest r Q }) (h2 : b = false → SD X F orelse ρ { Q with nx := fun r => SD X F rest r Q }) : SD X F (.If c body orelse pos :: rest) ρ Q := by
  refine sd_seq (N := fun r => SD X F rest r Q) ?_ fun _ h => h
  cases b with
  | true =>
    exact PS.mono (ps_if hc (h1 rfl) (pss_never (sts := orelse))) fun Q' σ H ⟨hv, hρ, A, hl, S, f⟩ => ⟨_, vz_open S true false, S.env hl true false, fun H1 s1 => by
      refine iteT ?_; exact ⟨hv, hρ, A, hl, S.grow s1, f⟩⟩
  | false =>
    exact PS.mono (ps_if hc (pss_never (sts := body)) (h2 rfl)) fun Q' σ H ⟨hv, hρ, A, hl, S, f⟩ => ⟨_, vz_open S true false, S.env hl true false, fun H1 s1 => by
      refine iteF ?_; exact ⟨hv, hρ, A, hl, S.grow s1, f⟩⟩
/-- .. whose ways meet in one state -/
theorem sd_ifJ (ρ1 : Rho) {b : Bool} (hc : T X (view true false ρ) c b) (h1 : b = true → SD X F body ρ { Q with nx := fun r => r = ρ1 }) (h2 : b = false → SD X F orelse ρ { Q with nx := fun r => r = ρ1 }) (h3 : SD X F rest ρ1 Q) : SD X F (.If c body orelse pos :: rest) ρ Q := by
  refine sd_then (ρ' := ρ1) ?_ h3
  cases b with
  | true =>
    exact PS.mono (ps_if hc (h1 rfl) (pss_never (sts := orelse))) fun Q' σ H ⟨hv, hρ, A, hl, S, f⟩ => ⟨_, vz_open S true false, S.env hl true false, fun H1 s1 => by
      refine iteT ?_; exact ⟨hv, hρ, A, hl, S.grow s1, f⟩⟩
  | false =>
    exact PS.mono (ps_if hc (pss_never (sts := body)) (h2 rfl)) fun Q' σ H ⟨hv, hρ, A, hl, S, f⟩ => ⟨_, vz_open S true false, S.env hl true false, fun H1 s1 => by
      refine iteF ?_; exact ⟨hv, hρ, A, hl, S.grow s1, f⟩⟩
/-! ### while: P the word, μ the measure -/
/-! ### what is hidden from a body: the sources of a loop -/
def hid (fr : Bool) (srcs : List D) : Rho := srcs.map fun d => some (.pl fr d)
theorem StIn.hide {K : PySem.W.Frag} {H : Hp} {σ hv : St} {r hρ : Rho} {A : Nat → List Addr} {srcs : List D} {vs : List V} (S : StIn K F H (σ ++ hv) (r ++ hρ) A) (h1 : σ.length = r.length) (h2 : hv.length = hρ.length) (iz : Ins K H (zn F (Owned A) fr) srcs vs) :
    StIn K F H (σ ++ (hv ++ vs.map some)) (r ++ (hρ ++ hid fr srcs)) A := by
  refine ⟨S.same, S.opn, S.nd, S.one, S.new, S.lst, fun i sl e => ?_⟩
  rw [← List.append_assoc] at e ⊢
  by_cases hi : i < (r ++ hρ).length
  · rw [List.getElem?_append_left hi] at e
    rw [List.getElem?_append_left (by rw [List.length_append] at hi ⊢; omega)]
    exact S.at' i sl e
  · rw [List.getElem?_append_right (by omega)] at e
    rw [List.getElem?_append_right (by rw [List.length_append] at hi ⊢; omega)]
    have hle : (σ ++ hv).length = (r ++ hρ).length := by rw [List.length_append, List.length_append]; omega
    rw [hle]
    unfold hid at e
    rw [List.getElem?_map] at e
    cases q : srcs[i - (r ++ hρ).length]? with
    | none => rw [q] at e; cases e
    | some d =>
      rw [q] at e
      have e' : some (Slot.pl fr d) = some sl := by simpa using e
      cases e'
      obtain ⟨v, a, b⟩ := iz.get q
      exact ⟨v, by rw [List.getElem?_map, a]; rfl, b⟩
theorem StIn.srcs {K : PySem.W.Frag} {H : Hp} {σ hv : St} {r hρ : Rho} {A : Nat → List Addr} {srcs : List D} {vs : List V} (S : StIn K F H (σ ++ (hv ++ vs.map some)) (r ++ (hρ ++ hid fr srcs)) A) (h1 : σ.length = r.length) (h2 : hv.length = hρ.length) (hsv : srcs.length = vs.length) :
    Ins K H (zn F (Owned A) fr) srcs vs := by
  refine Ins.of_get hsv fun i d v e1 e2 => ?_
  have hle : (σ ++ hv).length = (r ++ hρ).length := by rw [List.length_append, List.length_append]; omega
  obtain ⟨w, a, b⟩ := S.at' ((r ++ hρ).length + i) (.pl fr d) (by
    rw [← List.append_assoc, List.getElem?_append_right (by omega), Nat.add_sub_cancel_left]
    unfold hid
    rw [List.getElem?_map, e1]; rfl)
  rw [← List.append_assoc, List.getElem?_append_right (by omega), hle, Nat.add_sub_cancel_left, List.getElem?_map, e2] at a
  cases a
  exact b
theorem StIn.unhide {K : PySem.W.Frag} {H : Hp} {σ hv e1 : St} {r hρ e2 : Rho} {A : Nat → List Addr} (S : StIn K F H (σ ++ (hv ++ e1)) (r ++ (hρ ++ e2)) A) (h1 : σ.length = r.length) (h2 : hv.length = hρ.length) : StIn K F H (σ ++ hv) (r ++ hρ) A := by
  refine ⟨S.same, S.opn, S.nd, S.one, S.new, S.lst, fun i sl e => ?_⟩
  have hi : i < (r ++ hρ).length := (List.getElem?_eq_some_iff.mp e).1
  obtain ⟨v, a, b⟩ := S.at' i sl (by rw [← List.append_assoc, List.getElem?_append_left hi]; exact e)
  rw [← List.append_assoc, List.getElem?_append_left (by rw [List.length_append] at hi ⊢; omega)] at a
  exact ⟨v, a, b⟩

/-! ### for: over data; P the word by the turn; G: the target -/
theorem sd_forG {tg iter : Expr} {ds : List D} {mi : Bool} {g : TG} (fr : Bool) (G : D → Rho → Rho) (P : Nat → Rho → Prop) (hi : IT X tg mi (view false fr ρ) iter ds) (h0 : P 0 ρ) (hg : PG X tg g)
    (hG : ∀ n d r (hv : St) (hρ : Rho) (σ : St) (H H1 : Hp) (A : Nat → List Addr) (v : V) (Q : St → Hp → Prop), ds[n]? = some d → P n r → σ.length = r.length → StIn X.K F H (σ ++ hv) (r ++ hρ) A → Same H H1 → In X.K H1 (zn F (Owned A) fr) d v →
      (∀ σ' H', StOk X.K F hv hρ (fun r' => r' = G d r) σ' H' → Q σ' H') → g v σ H1 Q)
    (hb : ∀ n d r, ds[n]? = some d → P n r → SD X F body (G d r) { Q with nx := P (n + 1), ct := P (n + 1), bk := fun r => SD X F rest r Q }) (hd : ∀ r, P ds.length r → SD X F rest r Q)
    (hc : X.calm = true := by rfl) (hs : ∀ x, foldedSetIterable iter X.env x = pure x := by intro _; rfl) (hp : PassesOwn (model X.prog X.w) X.A X.env X.xe := by exact PassesOwn.never) : SD X F (.For tg iter body [] pos :: rest) ρ Q := by
  refine sd_seq (N := fun r => SD X F rest r Q) ?_ fun _ h => h
  refine PS.mono (ps_for (g := g) (tb := fun Q' σ H => ∃ n d r, ds[n]? = some d ∧ P n r ∧ tS X.K F (G d r) { Q with nx := P (n + 1), ct := P (n + 1), bk := fun r => SD X F rest r Q } Q' σ H) hp hc hi hg
    (fun pins s σ H Q' I ⟨n, d, r, e, pr, q⟩ => hb n d r e pr pins s σ H Q' I q) hs) fun Q' σ H ⟨hv, hρ, A, hl, S, f⟩ => ?_
  refine ⟨_, vz_open S false fr, S.env hl false fr, fun J H1 vs srcs s1 i1 Y => ?_⟩
  have iz : Ins X.K H1 (zn F (Owned A) fr) srcs vs := by
    cases mi
    · exact i1
    · exact i1.up (zn_open S fr)
  have hsv := iz.length
  refine ⟨fun n m σ H => m = ds.length - n ∧ n ≤ ds.length ∧ ∃ r A, P n r ∧ σ.length = r.length ∧ StIn X.K F H (σ ++ (hv ++ vs.map some)) (r ++ (hρ ++ hid fr srcs)) A, ⟨_, rfl, Nat.zero_le _, ρ, A, h0, hl, (S.grow s1).hide hl f.hl iz⟩, ?_⟩
  rintro n m σ1 H2 ⟨rfl, hn, r, A1, pr, hl1, S1⟩
  have iz1 := S1.srcs hl1 f.hl hsv
  by_cases hlt : n < ds.length
  · have hdn : ds[n]? = some ds[n] := by simp [hlt]
    obtain ⟨go, yl⟩ := Y.go _ H2 (zn_open S1 fr) iz1 n ds[n] hdn
    refine .inr ⟨go, StOk X.K F (hv ++ vs.map some) (hρ ++ hid fr srcs) (P (n + 1)), fun σ' H' ⟨r', A', hl', S', p'⟩ => ⟨ds.length - (n + 1), by omega, rfl, hlt, r', A', p', hl', S'⟩, fun y H3 hy => ?_⟩
    obtain ⟨s3, iy⟩ := yl y H3 hy
    refine hG n ds[n] r _ _ σ1 H2 H3 A1 y _ hdn pr hl1 S1 s3 iy fun σ4 H4 ⟨r4, A4, hl4, S4, e4⟩ => ?_
    subst e4
    refine ⟨n, ds[n], r, hdn, pr, _, _, A4, hl4, S4, ⟨by simp [hid, f.hl, hsv], fun _ _ h => h, fun σ5 H5 ⟨r5, A5, hl5, S5, q5⟩ => f.nx σ5 H5 ⟨r5, A5, hl5, S5.unhide hl5 f.hl, q5⟩, fun _ _ h => h, f.rt, f.rtT⟩⟩
  · have e : n = ds.length := by omega
    subst e
    exact .inl ⟨Y.stop _ H2 (zn_open S1 fr) iz1, f.nx _ _ ⟨r, A1, hl1, S1.unhide hl1 f.hl, hd r pr⟩⟩
/-- for x in .. -/
theorem sd_for (k : Nat) (fr : Bool) {x : Str} {px : Pos} {iter : Expr} {ds : List D} {mi : Bool} (P : Nat → Rho → Prop) (hi : IT X (.Name x px) mi (view false fr ρ) iter ds) (h0 : P 0 ρ) (hlen : ∀ n r, P n r → k < r.length)
    (hb : ∀ n d r, ds[n]? = some d → P n r → SD X F body (r.set k (some (.pl fr d))) { Q with nx := P (n + 1), ct := P (n + 1), bk := fun r => SD X F rest r Q }) (hd : ∀ r, P ds.length r → SD X F rest r Q)
    (hN : X.N.Nodup) (hx : X.N[k]? = some x := by rfl) (hxl : Loc X.env.scope x := by first | exact Or.inl rfl | exact Or.inr rfl) (hf : X.fn x = true ∨ X.env.scope.names.lookup x = some .local := by first | exact .inl rfl | exact .inr rfl) (hc : X.calm = true := by rfl)
    (hs : ∀ x, foldedSetIterable iter X.env x = pure x := by intro _; rfl) (hp : PassesOwn (model X.prog X.w) X.A X.env X.xe := by exact PassesOwn.never) : SD X F (.For (.Name x px) iter body [] pos :: rest) ρ Q :=
  sd_forG fr (fun d r => r.set k (some (.pl fr d))) P hi h0 (pg_name hN hx hxl hf) (fun n d r hv hρ σ H H1 A v q e pr hl S s i h => h _ _ (put_pl hl S (hlen n r pr) s i)) hb hd hc hs hp
/-- .. flat items -/
theorem sd_forF (k : Nat) {x : Str} {px : Pos} {iter : Expr} {ds : List D} {mi : Bool} (P : Nat → Rho → Prop) (hi : IT X (.Name x px) mi (view false false ρ) iter ds) (fl : ∀ d ∈ ds, d.flat = true) (h0 : P 0 ρ) (hlen : ∀ n r, P n r → k < r.length)
    (hb : ∀ (n : Nat) d r, ds[n]? = some d → P n r → SD X F body (r.set k (some (.pl true d))) { Q with nx := P (n + 1), ct := P (n + 1), bk := fun r => SD X F rest r Q }) (hd : ∀ r, P ds.length r → SD X F rest r Q)
    (hN : X.N.Nodup) (hx : X.N[k]? = some x := by rfl) (hxl : Loc X.env.scope x := by first | exact Or.inl rfl | exact Or.inr rfl) (hf : X.fn x = true ∨ X.env.scope.names.lookup x = some .local := by first | exact .inl rfl | exact .inr rfl) (hc : X.calm = true := by rfl)
    (hs : ∀ x, foldedSetIterable iter X.env x = pure x := by intro _; rfl) (hp : PassesOwn (model X.prog X.w) X.A X.env X.xe := by exact PassesOwn.never) : SD X F (.For (.Name x px) iter body [] pos :: rest) ρ Q :=
  sd_forG false (fun d r => r.set k (some (.pl true d))) P hi h0 (pg_name hN hx hxl hf) (fun n d r hv hρ σ H H1 A v q e pr hl S s i h => h _ _ (put_pl hl S (hlen n r pr) s (i.flat' (fl d (List.mem_of_getElem? e))))) hb hd hc hs hp
/-- for x, y in .. -/
theorem sd_for2 (k l : Nat) (fr : Bool) {x y : Str} {px py pt : Pos} {kt : Nat} {iter : Expr} {ds : List D} {mi : Bool} (P : Nat → Rho → Prop) (hi : IT X (.Tuple [.Name x px, .Name y py] kt pt) mi (view false fr ρ) iter ds) (h0 : P 0 ρ)
    (hlen : ∀ n r, P n r → k < r.length ∧ l < r.length) (hpair : ∀ d ∈ ds, ∃ d1 d2, d = .tup [d1, d2])
    (hb : ∀ n d1 d2 r, ds[n]? = some (.tup [d1, d2]) → P n r → SD X F body ((r.set k (some (.pl fr d1))).set l (some (.pl fr d2))) { Q with nx := P (n + 1), ct := P (n + 1), bk := fun r => SD X F rest r Q }) (hd : ∀ r, P ds.length r → SD X F rest r Q)
    (hN : X.N.Nodup) (hx : X.N[k]? = some x := by rfl) (hy : X.N[l]? = some y := by rfl) (hxl : Loc X.env.scope x := by first | exact Or.inl rfl | exact Or.inr rfl) (hyl : Loc X.env.scope y := by first | exact Or.inl rfl | exact Or.inr rfl)
    (hf : X.fn x = true ∨ X.env.scope.names.lookup x = some .local := by first | exact .inl rfl | exact .inr rfl) (hf' : X.fn y = true ∨ X.env.scope.names.lookup y = some .local := by first | exact .inl rfl | exact .inr rfl) (hc : X.calm = true := by rfl)
    (hs : ∀ x, foldedSetIterable iter X.env x = pure x := by intro _; rfl) (hp : PassesOwn (model X.prog X.w) X.A X.env X.xe := by exact PassesOwn.never)
    (hes : (assignEach [.Name x px, .Name y py] X.env).map (·.2) = [assign (.Name x px) X.env, assign (.Name y py) X.env] := by rfl) (hes2 : (assignEach [.Name y py] X.env).map (·.2) = [assign (.Name y py) X.env] := by rfl)
    (hen : (assignEach [.Name x px, .Name y py] X.env).length = 2 := by rfl) (hst : (assignEach [.Name x px, .Name y py] X.env).findIdx? (·.1) = none := by rfl) : SD X F (.For (.Tuple [.Name x px, .Name y py] kt pt) iter body [] pos :: rest) ρ Q := by
  refine sd_forG (g := gTup X.K 2 (gCons (gName k) (gCons (gName l) gNil))) fr (fun d r => match d with | .tup [d1, d2] => (r.set k (some (.pl fr d1))).set l (some (.pl fr d2)) | _ => r) P hi h0
    (pg_tup hc (pgs_cons (pg_name hN hx hxl hf) (pgs_cons (pg_name hN hy hyl hf') pgs_nil (by rw [hes2]; rfl)) (by rw [hes, hes2])) hen hst) (fun n d r hv hρ σ H H1 A v q e pr hl S s i h => ?_) (fun n d r e pr => ?_) hd hc hs hp
  · obtain ⟨d1, d2, rfl⟩ := hpair d (List.mem_of_getElem? e)
    obtain ⟨a, xs, rfl, t, j⟩ := in_tupS i
    obtain ⟨v1, r1, rfl, i1, j1⟩ := ins_cons.mp j
    obtain ⟨v2, r2, rfl, i2, j2⟩ := ins_cons.mp j1
    cases ins_nil.mp j2
    refine ⟨a, _, rfl, t, rfl, v1, _, rfl, v2, _, rfl, rfl, ?_⟩
    exact h _ _ (put_pl (by simp [hl]) (put_plA (fr := fr) hl S (hlen n r pr).1 s i1) (by simpa using (hlen n r pr).2) (Same.refl _) (i2.carry zn_drop))
  · obtain ⟨d1, d2, rfl⟩ := hpair d (List.mem_of_getElem? e)
    exact hb n d1 d2 r e pr
end
end Y
set_option Elab.async false
set_option linter.all false
set_option autoImplicit false
set_option maxRecDepth 100000
set_option maxHeartbeats 4000000
/-! DEFS, AND LISTS THAT ARE WRITTEN -/
namespace Y
open PySem PySem.Spec PyProof.Rows L2
variable [Tabs]

/-- a def's promise over data: G relates what is handed in to what comes back -/
def spD (K : PySem.W.Frag) (m : Bool) (G : List D → D → Prop) : Sp := fun vs H Q _ => ∃ (Z : Zone) (ds : List D) (d : D), Z.Open H ∧ Ins K H Z ds vs ∧ G ds d ∧ ∀ v H', Same H H' → In K H' (out m Z H) d v → Q v H'
structure Def (P : Program) (w : World) (K : PySem.W.Frag) (mg : Str → Option Value) (base : Heap) (k : Nat) (x : Str) (m : Bool) (G : List D → D → Prop) : Prop where
  ex : ∃ f fd ps, FnOk P w K mg base CX0 k f fd ps (spD K m G) ∧ mg x = some (.ref f) ∧ PySem.W.keepIn K (.ref f) = true ∧ Binds K fd ps []
theorem Def.mono {P : Program} {w : World} {K : PySem.W.Frag} {mg : Str → Option Value} {base : Heap} {j k : Nat} {x : Str} {m : Bool} {G : List D → D → Prop} (h : Def P w K mg base j x m G) (hk : j ≤ k) : Def P w K mg base k x m G := by
  obtain ⟨f, fd, ps, a, b, c, d⟩ := h.ex
  exact ⟨f, fd, ps, a.mono hk, b, c, d⟩
section
variable {X : Cx} {ρ : List (Option D)} {m : Bool} {e : Expr} {es : List Expr} {ds : List D} {d : D} {pos p : Pos} {k : Nat} {x : Str} {G : List D → D → Prop}
theorem e_call (Df : Def X.prog X.w X.K X.mg X.base k x m G) (hr : Room k X.A) (ha : EA X ρ (e :: es) ds) (h : G ds d) (hg : Gl X x := by rfl) (hdb : (x == ("__debug__" : Str)) = false := by decide)
    (he : starEach (e :: es) X.env = (false, eval e X.env) :: starEach es X.env := by rfl) (hpl : (backTo pos (starEach es X.env)).any (·.1) = false := by rfl) : E X m ρ (.Call (.Name x p) (e :: es) [] pos) d := by
  obtain ⟨f, fd, ps, a, b, c, dd⟩ := Df.ex
  exact PE.mono (pe_call a hr hg b c dd .nil pass0 ha hdb he hpl) fun σ H Q ⟨Z, oz, en, k⟩ => ⟨Z, oz, en, fun vs H1 s1 i1 => by
    show spD X.K m G (vs ++ []) H1 Q E0
    rw [List.append_nil]
    exact ⟨Z, ds, d, oz.same s1, i1, h, fun v H' s' i => k v H' (s1.trans s') (i.later s1)⟩⟩
end

/-- the names' data at a def's entry -/
def startD (N : List Str) (ds : List D) : Rho := ds.map (fun d => some (.pl false d)) ++ List.replicate (N.length - ds.length) none
theorem start_in {K : PySem.W.Frag} {Z : Zone} {H : Hp} {m : Bool} {N : List Str} {ds : List D} {vs : List V} (oz : Z.Open H) (h : Ins K H Z ds vs) : StIn K ⟨m, Z, H⟩ H (L2.start N vs ++ []) (startD N ds ++ []) (fun _ => []) := by
  refine ⟨Same.refl H, oz, fun _ => List.nodup_nil, fun i j a ha => by simp at ha, fun i a ha => by simp at ha, fun i a ha => by simp at ha, fun i sl e => ?_⟩
  rw [List.append_nil] at e ⊢
  unfold startD at e
  unfold L2.start
  by_cases hi : i < ds.length
  · rw [List.getElem?_append_left (by simpa using hi), List.getElem?_map] at e
    have hd : ds[i]? = some ds[i] := by simp [hi]
    rw [hd] at e
    have e' : some (Slot.pl false ds[i]) = some sl := by simpa using e
    cases e'
    obtain ⟨v, a, b⟩ := h.get hd
    have hv : i < vs.length := (List.getElem?_eq_some_iff.mp a).1
    refine ⟨v, by rw [List.getElem?_append_left (by simpa using hv), List.getElem?_map, a]; rfl, ?_⟩
    exact In.carry (Z' := ⟨Z.m, fun a => Z.S a ∧ ¬ Owned (fun _ => []) a⟩) (Carry.of (Same.refl H) (fun a xs e z => ⟨z, fun ⟨j, hj⟩ => by simp at hj⟩) fun m => m) b
  · rw [List.getElem?_append_right (by simpa using hi), List.getElem?_replicate] at e
    split at e <;> cases e
section
variable {P : Program} {w : World} {K : PySem.W.Frag} {mg : Str → Option Value} {base : Heap}
/-- THE RULE for a def by data -/
theorem fnD {x qual : Str} {st : Stmt} {f : Addr} {fd : FuncData} {N ps : List Str} {k : Nat} {m : Bool} {G : List D → D → Prop} (Fx : Fun K x qual st f fd) (S : FnScope N ps (defScope st))
    (hlen : ∀ ds d, G ds d → ds.length = ps.length)
    (body : ∀ (cdv : Value) (A : Around) (outer : List Env) (s : Shared) (H : Hp) (E : XK) (Z : Zone) (ds : List D) (d : D), Room k (A.deeper (envOfC qual (defScope st) s.heap.objs.size f cdv)) → G ds d →
      SD (cxOf CX0 P w K mg base N qual (defScope st) f cdv A outer s H E).nox ⟨m, Z, H⟩ (defBody st) (startD N ds) { nx := fun _ => d = .non, rt := fun d' => d' = d }) : FnOk P w K mg base CX0 (k + 1) f fd ps (spD K m G) := by
  refine Fx.ok S (fun vs H Q E ⟨Z, ds, d, oz, i, g, kk⟩ => ?_) (fun cdv A outer s H vs Q E hr ⟨Z, ds, d, oz, i, g, kk⟩ => ?_)
  · rw [← i.length]; exact hlen ds d g
  · refine ⟨_, body cdv A outer s H E Z ds d hr g, [], [], fun _ => [], ?_, start_in oz i, ⟨rfl, fun σ H' ⟨r, A', hl, S', e⟩ => ?_, fun σ H' ⟨r, A', hl, S', e⟩ => e.elim, fun σ H' ⟨r, A', hl, S', e⟩ => e.elim, fun v d' H' s' i' e => ?_, fun _ _ _ _ _ _ _ _ e => e.elim⟩⟩
    · have := i.length
      simp [L2.start, startD]; omega
    · subst e
      exact kk .non H' S'.same (in_non.mpr rfl)
    · subst e
      exact kk v H' s' i'
theorem def_of {x qual : Str} {st : Stmt} {f : Addr} {fd : FuncData} {N ps : List Str} {k : Nat} {m : Bool} {G : List D → D → Prop} (Fx : Fun K x qual st f fd) (S : FnScope N ps (defScope st)) (hmg : mg x = some (.ref f)) (hb : Binds K fd ps [])
    (hlen : ∀ ds d, G ds d → ds.length = ps.length)
    (body : ∀ (cdv : Value) (A : Around) (outer : List Env) (s : Shared) (H : Hp) (E : XK) (Z : Zone) (ds : List D) (d : D), Room k (A.deeper (envOfC qual (defScope st) s.heap.objs.size f cdv)) → G ds d →
      SD (cxOf CX0 P w K mg base N qual (defScope st) f cdv A outer s H E).nox ⟨m, Z, H⟩ (defBody st) (startD N ds) { nx := fun _ => d = .non, rt := fun d' => d' = d }) : Def P w K mg base (k + 1) x m G := ⟨f, fd, ps, fnD Fx S hlen body, hmg, Fx.kp, hb⟩

/-! ### the law: a list of at most 63 ints is handed in, True comes out -/
def lawG (ds : List D) (d : D) : Prop := ∃ ns : List Int, ns.length ≤ 63 ∧ ds = [.lst (ns.map D.int)] ∧ d = .bl true
def spLaw (K : PySem.W.Frag) : Sp := fun vs H Q _ => ∃ (a : Addr) (ns : List Int), vs = [.ref a] ∧ SqL K H a (ns.map V.int) ∧ ns.length ≤ 63 ∧ TabsOk H ∧ ∀ H', Q (.bl true) H'
theorem spLaw_of {H : Hp} {vs : List V} {Q : VK} {E : XK} (h : spLaw K vs H Q E) : spD K false lawG vs H Q E := by
  obtain ⟨a, ns, rfl, hS, hl, tb, q⟩ := h
  refine ⟨anyZ, [.lst (ns.map D.int)], .bl true, anyZ_open tb, Ins.one (in_lst.mpr ⟨a, _, rfl, ?_, ins_ints ns⟩), ⟨ns, hl, rfl, rfl⟩, fun v H' s i => ?_⟩
  · rcases hS with (h | h) | h
    · exact .inl ⟨h, trivial⟩
    · exact .inr ⟨rfl, .inl h⟩
    · exact .inr ⟨rfl, .inr h⟩
  · rw [in_bl.mp i]; exact q H'
theorem law_of {k : Nat} {f : Addr} {fd : FuncData} {ps : List Str} (h : FnOk P w K mg base CX0 k f fd ps (spD K false lawG)) : FnOk P w K mg base CX0 k f fd ps (spLaw K) := h.imp fun _ _ _ _ q => spLaw_of q
theorem walk {l : PySem.W.OpenLaw} {q : Program} {loose : List Str} {XP : (Str → Option Value) → Heap → Prop} {YP : World → Heap → Prop} {d : DefRec} {K : Params → PySem.W.Frag} {x : Str} {k : Nat} (hn : l.most = some 63) (hdf : d.params.defaults = []) (hr : Room k callerA)
    (hY : ∀ (w : World) (h : Heap), YP w h → (K w.params).In h)
    (F : ∀ (w : World) (mg : Str → Option Value) (fa : Addr) (h : Heap), (K w.params).In h → h.Ns mainGlobals mg → mg d.name = some (.ref fa) →
      ∃ fd : FuncData, (∀ (s : Shared) (u : Value), BindsTo s fd ⟨[u], []⟩ [(x, u)]) ∧ ∀ base : Heap, (K w.params).In base → base.Ns mainGlobals mg → FnOk l.prog w (K w.params) mg base CX0 k fa fd [x] (spLaw (K w.params))) (h0 : Tabs.T = [] := by rfl) :
    PySem.W.WalkO q loose XP YP l.row.toRowW d [] (fun f vs => PySem.call f vs) :=
  L2.walk_of (n := 63) (k := k) (x := x) (CX := fun _ => CX0) (sp := fun w => spLaw (K w.params)) hn (by decide) hdf hr hY F (fun _ _ a ns hl _ hS => ⟨a, ns, rfl, hS, hl, (fun P hP => by rw [h0] at hP; cases hP), fun _ => rfl⟩) fun _ _ _ _ _ z => z
end

/-! ### lists of a name's own -/
section
variable {X : Cx} {F : Fn} {ρ : Rho} {Q : EndD} {rest : List Stmt} {e : Expr} {d : D} {pos p : Pos} {x : Str} {fr m1 : Bool} {ds : List D} {dss : List (List D)}
theorem nodup1 {a : Addr} : [a].Nodup := by simp
/-- name = [..], a new list that is the name's own; its items are flat -/
theorem sd_own (i : Nat) {x : Str} {ds : List D} (he : E X true (view true false ρ) e (.lst ds)) (fl : flats ds = true) (hr : SD X F rest (ρ.set i (some (.ow true ds))) Q) (hN : X.N.Nodup) (hi : X.N[i]? = some x := by rfl)
    (hx : Loc X.env.scope x := by first | exact Or.inl rfl | exact Or.inr rfl) (hρ : i < ρ.length := by exact of_decide_eq_true rfl) (hs : swapsWith e (some (.Name x p)) pos.line X.env = pure false := by rfl) (hf : X.fn x = true ∨ X.env.scope.names.lookup x = some .local := by first | exact .inl rfl | exact .inr rfl) :
    SD X F (.Assign [.Name x p] e pos :: rest) ρ Q :=
  sd_then (PS.mono (ps_set hN hi hx he hs hf) fun Q' σ H ⟨hv, hρ', A, hl, S, f⟩ => ⟨_, vz_open S true false, S.env hl true false, fun v H1 s1 i1 => by
    obtain ⟨l, xs, rfl, at', j⟩ := in_lst.mp i1
    obtain ⟨e1, e2⟩ : H1 l = some (.lst xs) ∧ H l = none := by
      rcases at' with z | z
      · exact z
      · exact absurd z.1 (by simp [out, nw])
    refine f.nx _ H1 ⟨_, putA A i [l], by simp [hl], ?_, rfl⟩
    rw [← set_app (by omega), ← set_app hρ]
    exact S.put (by rw [List.length_append]; omega) (by rw [List.length_append]; omega) s1 nodup1 (fun a ha => by
      have : a = l := by simpa using ha
      subst this
      exact ⟨e2, .l xs, e1⟩) ⟨l, xs, rfl, rfl, e1, j.flat' fl⟩⟩) hr
/-- name = [[]] -/
theorem sd_own21 (i : Nat) {x : Str} (he : E X true (view true false ρ) e (.lst [.lst []])) (hr : SD X F rest (ρ.set i (some (.ow2 true [[]]))) Q) (hN : X.N.Nodup) (hi : X.N[i]? = some x := by rfl)
    (hx : Loc X.env.scope x := by first | exact Or.inl rfl | exact Or.inr rfl) (hρ : i < ρ.length := by exact of_decide_eq_true rfl) (hs : swapsWith e (some (.Name x p)) pos.line X.env = pure false := by rfl) (hf : X.fn x = true ∨ X.env.scope.names.lookup x = some .local := by first | exact .inl rfl | exact .inr rfl) :
    SD X F (.Assign [.Name x p] e pos :: rest) ρ Q :=
  sd_then (PS.mono (ps_set hN hi hx he hs hf) fun Q' σ H ⟨hv, hρ', A, hl, S, f⟩ => ⟨_, vz_open S true false, S.env hl true false, fun v H1 s1 i1 => by
    obtain ⟨l, xs, rfl, at', j⟩ := in_lst.mp i1
    obtain ⟨w, r, rfl, iw, jr⟩ := ins_cons.mp j
    cases ins_nil.mp jr
    obtain ⟨a, ys, rfl, at2, j2⟩ := in_lst.mp iw
    cases ins_nil.mp j2
    obtain ⟨e1, e2⟩ : H1 l = some (.lst [.ref a]) ∧ H l = none := by
      rcases at' with z | z
      · exact z
      · exact absurd z.1 (by simp [out, nw])
    obtain ⟨e3, e4⟩ : H1 a = some (.lst []) ∧ H a = none := by
      rcases at2 with z | z
      · exact z
      · exact absurd z.1 (by simp [out, nw])
    have nla : l ≠ a := ne_of e1 e3 (by intro z; cases z)
    refine f.nx _ H1 ⟨_, putA A i [l, a], by simp [hl], ?_, rfl⟩
    rw [← set_app (by omega), ← set_app hρ]
    exact S.put (by rw [List.length_append]; omega) (by rw [List.length_append]; omega) s1 (by simp [nla]) (fun b hb => by
      rcases List.mem_cons.mp hb with rfl | hb
      · exact ⟨e2, .l _, e1⟩
      · have : b = a := by simpa using hb
        subst this
        exact ⟨e4, .l _, e3⟩) ⟨l, [a], rfl, rfl, e1, .cons ⟨[], e3, ins_nil.mpr rfl⟩ .nil⟩⟩) hr

theorem set_self {α : Type} {l : List α} {i : Nat} {v : α} (h : l[i]? = some v) : l.set i v = l := by
  obtain ⟨hi, e⟩ := List.getElem?_eq_some_iff.mp h
  rw [← e, List.set_getElem_self]
/-- reading an own slot -/
theorem StIn.ow {K : PySem.W.Frag} {H : Hp} {σ hv : St} {hρ : Rho} {A : Nat → List Addr} {i : Nat} (S : StIn K F H (σ ++ hv) (ρ ++ hρ) A) (hl : σ.length = ρ.length) (h : ρ[i]? = some (some (.ow fr ds))) :
    ∃ l xs, σ[i]? = some (some (.ref l)) ∧ A i = [l] ∧ H l = some (.lst xs) ∧ Ins K H (zn F (Owned A) fr) ds xs := by
  have hi : i < ρ.length := (List.getElem?_eq_some_iff.mp h).1
  obtain ⟨v, a, l, xs, e1, rfl, e2, j⟩ := S.at' i _ (by rw [List.getElem?_append_left hi]; exact h)
  rw [List.getElem?_append_left (by omega)] at a
  exact ⟨l, xs, a, e1, e2, j⟩
/-- an own list is written: the new state -/
theorem put_ow {K : PySem.W.Frag} {hv : St} {hρ : Rho} {σ : St} {H : Hp} {A : Nat → List Addr} {i : Nat} {l : Addr} {xs ys : List V} {es : List D} (hl : σ.length = ρ.length) (S : StIn K F H (σ ++ hv) (ρ ++ hρ) A) (h : σ[i]? = some (some (.ref l))) (hA : A i = [l]) (hx : H l = some (.lst xs))
    (j : Ins K H (zn F (Owned A) fr) es ys) : StOk K F hv hρ (fun r => r = ρ.set i (some (.ow fr es))) σ (upd H l (.lst ys)) := by
  have hi : i < σ.length := (List.getElem?_eq_some_iff.mp h).1
  refine ⟨_, putA A i [l], by simp [hl], ?_, rfl⟩
  have key := S.re (i := i) (v := .ref l) (sl := .ow fr es) (l := [l]) (H2 := upd H l (.lst ys)) (by rw [List.length_append]; omega) (by rw [List.length_append]; omega) (S.same.write (S.new i l (by rw [hA]; simp)) hx) (fun b o e _ hb => ?_) nodup1 (fun a ha => ?_) ⟨l, ys, rfl, rfl, upd_same, ?_⟩
  · rw [set_self (by rw [List.getElem?_append_left hi]; exact h), set_app (by omega)] at key
    exact key
  · rw [hA] at hb
    have : b ≠ l := by simpa using hb
    rw [upd_ne this]; exact e
  · have : a = l := by simpa using ha
    subst this
    exact ⟨.inl (by rw [hA]; simp), .l ys, upd_same⟩
  · have eqA : putA A i [l] = A := by
      funext k
      by_cases q : k = i
      · rw [q, putA_same, hA]
      · rw [putA_ne q]
    rw [eqA]
    refine j.carry (.write hx ?_)
    unfold zn
    have o : Owned A l := ⟨i, by rw [hA]; simp⟩
    cases fr
    · exact fun z => z.2 o
    · exact fun z => z.2 o
/-- .. e flat -/
theorem sd_appendF (i : Nat) {x : Str} {ap cp : Pos} {ds : List D} (fr : Bool) {d : D} (h : ρ[i]? = some (some (.ow fr ds)) := by rfl) (he : E X m1 (view true false ρ) e d) (fl : d.flat = true) (hz : ds.length < 1000) (hr : SD X F rest (ρ.set i (some (.ow fr (ds ++ [d])))) Q)
    (hN : X.N[i]? = some x := by rfl) (hv : Vis X.env.scope x := by first | exact Or.inl rfl | exact Or.inr (Or.inl rfl) | exact Or.inr (Or.inr rfl)) (hd : (x == ("__debug__" : Str)) = false := by decide) (hcd : (x == ("__classdict__" : Str)) = false := by decide)
    (hbase : attributeBase (.Name x p) "append" X.env (eval (.Name x p) X.env) = eval (.Name x p) X.env := by rfl) (hline : (ap.endLine == cp.line) = true := by rfl)
    (hs : starEach [e] X.env = [(false, eval e X.env)] := by rfl) (hsw : swapsWith (.Call (.Attribute (.Name x p) "append" ap) [e] [] cp) none pos.line X.env = pure false := by rfl) :
    SD X F (.Expr (.Call (.Attribute (.Name x p) "append" ap) [e] [] cp) pos :: rest) ρ Q := by
  refine sd_then (PS.mono (ps_expr (pe_bm PySem.F.plainAttrs_list PySem.F.slot_list_append PySem.F.type_list_append mt_append (pe_var hN hv hd hcd) (pa_cons he pa_nil (by rw [hs]; rfl)) hbase (by rw [hs]; rfl) hline (by rw [hs]; rfl) rfl) hsw) fun Q' σ H ⟨hv, hρ, A, hl, S, f⟩ => ?_) hr
  obtain ⟨l, xs, e1, e2, e3, j⟩ := S.ow hl h
  refine ⟨.ref l, e1, .inl ⟨rfl, xs, SqL.of e3⟩, _, vz_open S true false, S.env hl true false, fun v H1 s1 i1 => ?_⟩
  refine ⟨l, xs, v, rfl, rfl, s1.at e3, by rw [← j.length]; exact small1000 (by omega), f.nx _ _ (put_ow hl (S.grow s1) e1 e2 (s1.at e3) ((j.same s1).append (Ins.one (i1.flat' fl))))⟩
end
end Y
set_option Elab.async false
set_option linter.all false
set_option autoImplicit false
set_option maxRecDepth 100000
set_option maxHeartbeats 4000000
/-! BUILT-INS BY DATA -/
namespace Y
open PySem PySem.Spec PyProof.Rows L2
variable [Tabs]

section
variable {X : Cx}
/-! ### methods of texts -/
/-- z[lo:hi] of a text -/
theorem sl_str : SlR X (fun x lo hi H Q => ∃ z, x = .str z ∧ z.length ≤ sizeLine ∧ Q (.str (Txt.slice z lo hi)) H) := by
  intro pins s σ H x v vl vu lo hi sl Q I rx hs pl pu h
  obtain ⟨z, rfl, hz, q⟩ := h
  obtain ⟨t, rfl⟩ := rx
  refine ⟨"str", _, F.slot_str_getitem.lookup, typeIs_str _ _ _, ?_⟩
  have fin : ∀ t' k, EP X pins σ Q (.str (Txt.slice z lo hi) t') { s with toks := k } := fun t' k => ⟨.str (Txt.slice z lo hi), H, I.tok k, ⟨_, rfl⟩, q⟩
  have key : ∀ (l u : Option (Int × Tok)), vl = partValue l → vu = partValue u → l.map (·.1) = lo → u.map (·.1) = hi → wpAny (model X.prog X.w) X.A (getItem (.str z t) (.ref sl)) (EP X pins σ Q) X.xe s := fun l u e1 e2 e3 e4 => by
    subst e1 e2 e3 e4
    exact wpAny_getItem_str_slice (l := l) (u := u) (st := none) hs rfl (post_val_or_str ⟨Nat.le_trans (Txt.slice_le z _ _) hz, fun t' k => fin t' k⟩)
  cases pl with
  | none =>
    cases pu with
    | none => exact key none none rfl rfl rfl rfl
    | int j tj => exact key none (some (j, tj)) rfl rfl rfl rfl
  | int i ti =>
    cases pu with
    | none => exact key (some (i, ti)) none rfl rfl rfl rfl
    | int j tj => exact key (some (i, ti)) (some (j, tj)) rfl rfl rfl rfl
/-! ### isinstance -/
inductive IsiV (K : PySem.W.Frag) (H : Hp) : V → String → Bool → Prop where
  | bb (b : Bool) : IsiV K H (.bl b) "bool" true
  | bi (b : Bool) : IsiV K H (.bl b) "int" true
  | ii (i : Int) : IsiV K H (.int i) "int" true
  | ib (i : Int) : IsiV K H (.int i) "bool" false
  | ss (x : Str) : IsiV K H (.str x) "str" true
  | ll {a : Addr} {xs : List V} (h : SqL K H a xs) : IsiV K H (.ref a) "list" true
  | tt {a : Addr} {xs : List V} (h : SqT K H a xs) : IsiV K H (.ref a) "tuple" true
theorem call_isinst : CallR X (.builtin "isinstance") (fun xs H Q => ∃ x T b, xs = [x, .ty T] ∧ IsiV X.K H x T b ∧ Q (.bl b) H) := by
  intro pins s σ H xs us Q I r h
  obtain ⟨x, T, b, rfl, hi, q⟩ := h
  obtain ⟨u, w', rfl, ru, rw'⟩ := vals2 r
  cases rw'
  have fin : ∀ k, EP X pins σ Q (.bool b) { s with toks := k } := fun k => ⟨.bl b, H, I.tok k, rfl, q⟩
  cases hi with
  | bb => cases ru; exact IsiPair.bool_bool (fin s.toks)
  | bi => cases ru; exact IsiPair.bool_int (fin s.toks)
  | ii => obtain ⟨t, rfl⟩ := ru; exact IsiPair.int_int (fin s.toks)
  | ib => obtain ⟨t, rfl⟩ := ru; exact IsiPair.int_bool (fin _)
  | ss => obtain ⟨t, rfl⟩ := ru; exact IsiPair.str_str (fin s.toks)
  | ll h =>
    cases ru
    obtain ⟨its, _, ⟨o, n, e, c, _⟩, _⟩ := I.list h
    exact IsiPair.list_list e c (fin s.toks)
  | tt h =>
    cases ru
    obtain ⟨its, _, ⟨o, e, c, _⟩, _⟩ := I.tuple h
    exact IsiPair.tuple_tuple e c (fin s.toks)
/-- all(..) of a list of bools -/
theorem call_all : CallR X (.builtin "all") (fun xs H Q => X.A.handled = none ∧ ∃ (l : Addr) (bs : List Bool), xs = [.ref l] ∧ SqL X.K H l (bs.map V.bl) ∧ Q (.bl (bs.all id)) H) := by
  intro pins s σ H xs us Q I r h
  obtain ⟨hh, l, bs, rfl, hl, q⟩ := h
  obtain ⟨u, rfl, ru⟩ := vals1 r
  cases ru
  obtain ⟨its, rv, pl, hz⟩ := I.list hl
  have hget : ∀ (i : Nat) (v : Value), its.toArray[i]? = some v → v = Value.bool (bs.getD i false) := fun i v e => by
    have e' : its[i]? = some v := by simpa using e
    have hi : i < its.length := (List.getElem?_eq_some_iff.mp e').1
    have hlen := rv.length
    simp at hlen
    obtain ⟨w', h1, h2⟩ := rv.get (i := i) (x := .bl bs[i]) (by simp)
    rw [e'] at h1
    cases h1
    have h2 : v = .bool bs[i] := h2
    have hb : i < bs.length := by omega
    rw [h2]
    simp [hb]
  refine call_all_walk (wpAny_pyIter_list pl.isList ?_)
  obtain ⟨o, n, ho, hc, hd, hs⟩ := id pl
  refine ⟨s.heap.objs.size, _, _, _, _, _, fun i => bs.getD i false, rfl, Walks.list (A := X.A.in1) hh s.heap.objs.size l (Nat.ne_of_lt (Heap.lt_size ho)) its.toArray, ⟨⟨_, Heap.get?_push_size _ rfl, rfl, rfl⟩, ⟨o, Heap.get?_push_of_some _ ho, hc, n, hs⟩⟩, ?_, fun h' tk hk => ?_⟩
  · intro i v s' Q' E' hP hQ
    rw [hget i v hP]
    exact wpAny_truthy_bool hQ
  · refine ⟨.bl (bs.all id), H, I.kept (h' := h') (t' := tk) (fun b ob e => hk b ob (by simp; exact Nat.ne_of_lt (Heap.lt_size e)) (Heap.get?_push_of_some _ e)), ?_, q⟩
    show Value.bool _ = Value.bool _
    congr 1
    have hlen := rv.length
    simp at hlen
    rw [List.size_toArray, ← hlen]
    rw [Bool.eq_iff_iff, List.all_eq_true, List.all_eq_true]
    constructor
    · intro hq b hb
      obtain ⟨i, hi, e⟩ := List.mem_iff_getElem.mp hb
      have := hq i (by simpa using hi)
      simp [hi, e] at this
      exact this
    · intro hq i hi
      have hi' : i < bs.length := by simpa using hi
      have := hq bs[i] (List.getElem_mem hi')
      simp [hi']
      exact this
end

section
variable {X : Cx} {ρ : List (Option D)} {m m1 m2 : Bool} {a e o : Expr} {d : D} {pos p ap cp : Pos} {ds : List D}
/-- a text's slice -/
theorem e_slS {z : Str} {lo hi : Option Expr} {l u : Option Int} {p2 : Pos} (ha : E X m1 ρ a (.str z)) (hl : EO X ρ lo l) (hu : EO X ρ hi u) (hz : z.length ≤ sizeLine) : E X true ρ (.Subscript a (.Slice lo hi none p2) pos) (.str (Txt.slice z l u)) :=
  PE.mono (pe_slice sl_str ha hl hu) fun σ H Q ⟨Z, oz, en, k⟩ => ⟨Z, oz, en, fun x H1 s1 i1 => ⟨Z, oz.same s1, en.same s1, fun H2 s2 => ⟨Z, oz.same (s1.trans s2), en.same (s1.trans s2), fun H3 s3 =>
    ⟨z, in_str.mp (i1.plain oz), hz, k _ H3 ((s1.trans s2).trans s3) (in_str.mpr rfl)⟩⟩⟩⟩
/-- len -/
theorem e_lenL (ha : E X m1 ρ a (.lst ds)) (hm : X.mg "len" = none) (hg : Gl X "len" := by rfl) (hs : starEach [a] X.env = [(false, eval a X.env)] := by rfl) : E X true ρ (.Call (.Name "len" p) [a] [] pos) (.int ds.length) :=
  PE.mono (pe_callB call_len_seq hg hm PySem.boot_len (pa_cons ha pa_nil (by rw [hs]; rfl)) (by decide) (by decide) (by rw [hs]; rfl) rfl) fun σ H Q ⟨Z, oz, en, k⟩ => ⟨Z, oz, en, fun x H1 s1 i1 => by
    obtain ⟨l, xs, rfl, at', j⟩ := in_lst.mp (i1.plain oz)
    exact ⟨l, xs, rfl, .inl at'.sq, k _ H1 s1 (in_int.mpr (by rw [j.length]))⟩⟩
/-- isinstance(a, T) -/
def isiD : D → String → Option Bool
  | .bl _, "bool" => some true
  | .bl _, "int" => some true
  | .int _, "int" => some true
  | .int _, "bool" => some false
  | .str _, "str" => some true
  | .lst _, "list" => some true
  | .tup _, "tuple" => some true
  | _, _ => none
theorem isiV_of {K : PySem.W.Frag} {H : Hp} {Z : Zone} {v : V} {ty : String} {b : Bool} (i : In K H Z d v) (h : isiD d ty = some b) : IsiV K H v ty b := by
  unfold isiD at h
  split at h <;> first
    | (cases h; done)
    | (cases h; rw [in_bl.mp i]; exact .bb _)
    | (cases h; rw [in_bl.mp i]; exact .bi _)
    | (cases h; rw [in_int.mp i]; exact .ii _)
    | (cases h; rw [in_int.mp i]; exact .ib _)
    | (cases h; rw [in_str.mp i]; exact .ss _)
    | (cases h; obtain ⟨a, xs, rfl, at', _⟩ := in_lst.mp i; exact .ll at'.sq)
    | (cases h; obtain ⟨a, xs, rfl, at', _⟩ := in_tupS i; exact .tt at')
theorem e_isi {ty : String} {tn : Str} {p2 : Pos} {b : Bool} (ha : E X m1 ρ a d) (h : isiD d ty = some b) (hv : bootBuiltins tn = some (.type ty)) (hm : X.mg "isinstance" = none) (hm2 : X.mg tn = none) (hg : Gl X "isinstance" := by rfl) (hg2 : Gl X tn := by rfl)
    (hs : starEach [a, .Name tn p2] X.env = [(false, eval a X.env), (false, eval (.Name tn p2) X.env)] := by rfl) (hs2 : starEach [.Name tn p2] X.env = [(false, eval (.Name tn p2) X.env)] := by rfl) (hn : tn ≠ "__name__" := by decide) (hdb : (tn == ("__debug__" : Str)) = false := by decide) :
    E X true ρ (.Call (.Name "isinstance" p) [a, .Name tn p2] [] pos) (.bl b) :=
  PE.mono (pe_callB call_isinst hg hm boot_isinstance (pa_cons ha (pa_cons (pe_bltn (v := .ty ty) hg2 hm2 hv rfl hn hdb) pa_nil (by rw [hs2]; rfl)) (by rw [hs, hs2])) (by decide) (by decide) (by rw [hs, hs2]) (by rw [hs2]; rfl)) fun σ H Q ⟨Z, oz, en, k⟩ => ⟨Z, oz, en, fun x H1 s1 i1 =>
    ⟨x, ty, b, rfl, isiV_of (i1.plain oz) h, k _ H1 s1 (in_bl.mpr rfl)⟩⟩
/-- all -/
theorem ins_bls_inv {K : PySem.W.Frag} {H : Hp} {Z : Zone} : ∀ {bs : List Bool} {vs : List V}, Ins K H Z (bs.map D.bl) vs → vs = bs.map V.bl
  | [], _, h => ins_nil.mp h
  | n :: ns, _, h => by
    obtain ⟨v, r, rfl, a, j⟩ := ins_cons.mp h
    rw [in_bl.mp a, ins_bls_inv j]; rfl
theorem e_all {bs : List Bool} (ha : E X m1 ρ a (.lst (bs.map D.bl))) (hh : X.A.handled = none) (hm : X.mg "all" = none) (hg : Gl X "all" := by rfl) (hs : starEach [a] X.env = [(false, eval a X.env)] := by rfl) : E X true ρ (.Call (.Name "all" p) [a] [] pos) (.bl (bs.all id)) :=
  PE.mono (pe_callB call_all hg hm boot_all (pa_cons ha pa_nil (by rw [hs]; rfl)) (by decide) (by decide) (by rw [hs]; rfl) rfl) fun σ H Q ⟨Z, oz, en, k⟩ => ⟨Z, oz, en, fun x H1 s1 i1 => by
    obtain ⟨l, xs, rfl, at', j⟩ := in_lst.mp (i1.plain oz)
    rw [ins_bls_inv j] at at'
    exact ⟨hh, l, bs, rfl, at'.sq, k _ H1 s1 (in_bl.mpr rfl)⟩⟩
/-- list(a) -/
theorem e_listL (ha : E X m1 ρ a (.lst ds)) (hm : X.mg "list" = none) (hmm : m = true → m1 = true ∨ flats ds = true := by intro h; first | exact .inl h | cases h) (hg : Gl X "list" := by rfl) (hs : starEach [a] X.env = [(false, eval a X.env)] := by rfl) : E X m ρ (.Call (.Name "list" p) [a] [] pos) (.lst ds) :=
  PE.mono (pe_callTy call_list_of hg hm PyProof.Rows.boot_list (pa_cons ha pa_nil (by rw [hs]; rfl)) (by decide) (by decide) (by rw [hs]; rfl) rfl) fun σ H Q ⟨Z, oz, en, k⟩ => ⟨Z, oz, en, fun x H1 s1 i1 => by
    obtain ⟨l, xs, rfl, at', j⟩ := in_lst.mp i1
    refine ⟨l, xs, rfl, .inl at'.sq, fun q hq => k (.ref q) _ (s1.trans (same_new hq)) (in_lst.mpr ⟨q, xs, rfl, .inl ⟨upd_same, ?_⟩, ?_⟩)⟩
    · cases m
      · exact oz q (s1.free hq)
      · exact s1.free hq
    · have jc := j.same (same_new (o := .lst xs) hq)
      cases m
      · cases m1
        · exact jc
        · exact jc.up oz
      · rcases hmm rfl with h | h
        · subst h; exact jc
        · exact jc.flat' h⟩
end
end Y
set_option Elab.async false
set_option linter.all false
set_option autoImplicit false
set_option maxRecDepth 100000
set_option maxHeartbeats 4000000
/-! DATA COMPARED -/
namespace Y
open PySem PySem.Spec PyProof.Rows L2
variable [Tabs]

/-- a key and a datum -/
def keq : Key → D → Bool
  | .inl a, .int b => a == b
  | .inl a, .bl b => a == (if b then 1 else 0)
  | .inr a, .str b => a == b
  | _, _ => false
def keqs : List Key → List D → Bool
  | [], [] => true
  | k :: ks, d :: ds => keq k d && keqs ks ds
  | _, _ => false
mutual
def deq : D → D → Bool
  | .non, .non => true
  | .bl a, .bl b => a == b
  | .bl a, .int b => (if a then 1 else 0) == b
  | .int a, .bl b => a == (if b then 1 else 0)
  | .int a, .int b => a == b
  | .str a, .str b => a == b
  | .lst a, .lst b => deqs a b
  | .tup a, .tup b => deqs a b
  | .tup a, .ktup ks => deqs a (ks.map kD)
  | .dct _, .dct _ => true
  | .ktup ks, .tup b => keqs ks b
  | .ktup ks, .ktup ks' => keqs ks (ks'.map kD)
  | _, _ => false
def deqs : List D → List D → Bool
  | [], [] => true
  | a :: as, b :: bs => deq a b && deqs as bs
  | _, _ => false
end
mutual
def D.dep : D → Nat
  | .lst ds => deps ds + 1
  | .tup ds => deps ds + 1
  | .dct _ => 100000
  | .ktup _ => 1
  | _ => 0
def deps : List D → Nat
  | [] => 0
  | d :: ds => max d.dep (deps ds)
end
theorem deps_mem : ∀ {ds : List D} {d : D}, d ∈ ds → d.dep ≤ deps ds
  | [], _, h => by simp at h
  | e :: ds, d, h => by
    unfold deps
    rcases List.mem_cons.mp h with rfl | h
    · exact Nat.le_max_left _ _
    · exact Nat.le_trans (deps_mem h) (Nat.le_max_right _ _)
theorem keqs_refl : ∀ ks : List Key, keqs ks (ks.map kD) = true
  | [] => rfl
  | .inl a :: ks => by simp [keqs, keq, kD, keqs_refl ks]
  | .inr a :: ks => by simp [keqs, keq, kD, keqs_refl ks]
mutual
theorem deq_refl : ∀ d : D, deq d d = true
  | .non => by simp [deq]
  | .bl _ => by simp [deq]
  | .int _ => by simp [deq]
  | .str _ => by simp [deq]
  | .lst ds => by simp [deq, deqs_refl ds]
  | .tup ds => by simp [deq, deqs_refl ds]
  | .dct _ => by simp [deq]
  | .ktup ks => by simp only [deq]; exact keqs_refl ks
theorem deqs_refl : ∀ ds : List D, deqs ds ds = true
  | [] => by simp [deqs]
  | d :: ds => by simp [deqs, deq_refl d, deqs_refl ds]
end
theorem deqs_range : ∀ (ds es : List D), ((List.range (min ds.length es.length)).all (fun j => deq (ds.getD j .non) (es.getD j .non)) && ds.length == es.length) = deqs ds es
  | [], [] => by simp [deqs]
  | [], _ :: _ => by simp [deqs]
  | _ :: _, [] => by simp [deqs]
  | a :: as, b :: bs => by
    have ih := deqs_range as bs
    rw [deqs, ← ih]
    have hm : min (a :: as).length (b :: bs).length = min as.length bs.length + 1 := by simp <;> omega
    rw [hm, List.range_succ_eq_map, List.all_cons, List.all_map]
    simp [Function.comp_def, Bool.and_assoc]

/-- data that are told apart by == -/
def Told {α : Type} [DecidableEq α] (f : α → D) : Prop := ∀ a b, deq (f a) (f b) = decide (a = b)
section
variable {α β : Type} [DecidableEq α] [DecidableEq β] {f : α → D} {g : β → D}
theorem told_str : Told D.str := fun a b => by simp only [deq]; by_cases h : a = b <;> simp [h]
theorem told_all (h : Told f) : ∀ (as bs : List α), deqs (as.map f) (bs.map f) = decide (as = bs)
  | [], [] => by simp [deqs]
  | [], _ :: _ => by simp [deqs]
  | _ :: _, [] => by simp [deqs]
  | a :: as, b :: bs => by
    simp only [List.map_cons, deqs]
    rw [h a b, told_all h as bs]
    by_cases h1 : a = b <;> by_cases h2 : as = bs <;> simp [h1, h2]
theorem told_list (h : Told f) : Told (fun l : List α => D.lst (l.map f)) := fun a b => by simp only [deq]; exact told_all h a b
end

section
variable {X : Cx} {pins : List (Addr × Obj)} {σ : St} {H : Hp} {s : Shared} {Z Z' : Zone}
theorem dct_at {a : Addr} {o : DO} (I : Inv X pins σ H s) (h : H a = some o.ho) : DEq.IsDct s.heap a := by
  cases o with
  | k kvs =>
    obtain ⟨_, _, vs, _, ⟨cls, dd, data, sl⟩, es, ep, h1, h2, h3, _⟩ := dk_of I.hok h
    have hc : cls = .type "dict" := h2.1
    have hd : data = .dict es ep := h3
    subst hc hd
    exact ⟨dd, es, ep, sl, h1⟩
  | t kvs =>
    obtain ⟨_, _, vs, _, ⟨cls, dd, data, sl⟩, es, ep, h1, h2, h3, _⟩ := dt_of I.hok h
    have hc : cls = .type "dict" := h2.1
    have hd : data = .dict es ep := h3
    subst hc hd
    exact ⟨dd, es, ep, sl, h1⟩
theorem kfree {a : Addr} {ks : List Key} (I : Inv X pins σ H s) (h : KTup X.K a ks) : H a = none := by
  obtain ⟨o, _, _, hk, _⟩ := h
  exact (I.bs a o (I.mod.kin a o hk)).2
theorem sq_not_dct {a : Addr} {xs : List V} {o : DO} (I : Inv X pins σ H s) (h : SqL X.K H a xs) (h' : H a = some o.ho) : False := by
  obtain ⟨_, _, ⟨ob, n, e, c, _⟩, _⟩ := I.list h
  obtain ⟨dd, es, ep, sl, e'⟩ := dct_at I h'
  rw [e] at e'
  cases e'
  exact absurd c (by simp)
theorem lst_not_tup {a : Addr} {xs ys : List V} (I : Inv X pins σ H s) (h : SqL X.K H a xs) (h' : SqT X.K H a ys) : False := by
  obtain ⟨_, _, ⟨o, n, e, c, _⟩, _⟩ := I.list h
  obtain ⟨_, _, ⟨o', e', c', _⟩, _⟩ := I.tuple h'
  rw [e] at e'; cases e'
  rw [c] at c'
  exact absurd c' (by decide)
mutual
theorem In.inj (I : Inv X pins σ H s) : ∀ {d d' : D} {v : V}, In X.K H Z d v → In X.K H Z' d' v → d = d'
  | .non, d', v, h, h' => by
    rw [in_non.mp h] at h'
    cases d' with
    | non => rfl
    | bl b => cases in_bl.mp h'
    | int b => cases in_int.mp h'
    | str b => cases in_str.mp h'
    | lst b => obtain ⟨_, _, e, _⟩ := in_lst.mp h'; cases e
    | tup b => obtain ⟨_, _, e, _⟩ := in_tupS h'; cases e
    | dct b => obtain ⟨_, e, _⟩ := in_dct.mp h'; cases e
    | ktup b => obtain ⟨_, e, _⟩ := in_ktup.mp h'; cases e
  | .bl x, d', v, h, h' => by
    rw [in_bl.mp h] at h'
    cases d' with
    | non => cases in_non.mp h'
    | bl b => cases in_bl.mp h'; rfl
    | int b => cases in_int.mp h'
    | str b => cases in_str.mp h'
    | lst b => obtain ⟨_, _, e, _⟩ := in_lst.mp h'; cases e
    | tup b => obtain ⟨_, _, e, _⟩ := in_tupS h'; cases e
    | dct b => obtain ⟨_, e, _⟩ := in_dct.mp h'; cases e
    | ktup b => obtain ⟨_, e, _⟩ := in_ktup.mp h'; cases e
  | .int x, d', v, h, h' => by
    rw [in_int.mp h] at h'
    cases d' with
    | non => cases in_non.mp h'
    | bl b => cases in_bl.mp h'
    | int b => cases in_int.mp h'; rfl
    | str b => cases in_str.mp h'
    | lst b => obtain ⟨_, _, e, _⟩ := in_lst.mp h'; cases e
    | tup b => obtain ⟨_, _, e, _⟩ := in_tupS h'; cases e
    | dct b => obtain ⟨_, e, _⟩ := in_dct.mp h'; cases e
    | ktup b => obtain ⟨_, e, _⟩ := in_ktup.mp h'; cases e
  | .str x, d', v, h, h' => by
    rw [in_str.mp h] at h'
    cases d' with
    | non => cases in_non.mp h'
    | bl b => cases in_bl.mp h'
    | int b => cases in_int.mp h'
    | str b => cases in_str.mp h'; rfl
    | lst b => obtain ⟨_, _, e, _⟩ := in_lst.mp h'; cases e
    | tup b => obtain ⟨_, _, e, _⟩ := in_tupS h'; cases e
    | dct b => obtain ⟨_, e, _⟩ := in_dct.mp h'; cases e
    | ktup b => obtain ⟨_, e, _⟩ := in_ktup.mp h'; cases e
  | .lst ds, d', v, h, h' => by
    obtain ⟨a, xs, rfl, l, j⟩ := in_lst.mp h
    cases d' with
    | non => cases in_non.mp h'
    | bl b => cases in_bl.mp h'
    | int b => cases in_int.mp h'
    | str b => cases in_str.mp h'
    | lst es =>
      obtain ⟨_, ys, e, l', j'⟩ := in_lst.mp h'
      cases e
      have := I.list_inj l.sq l'.sq
      subst this
      rw [Ins.inj I j j']
    | tup es =>
      obtain ⟨_, ys, e, l', j'⟩ := in_tupS h'
      cases e
      exact (lst_not_tup I l.sq l').elim
    | dct o =>
      obtain ⟨_, e, l', _⟩ := in_dct.mp h'
      cases e
      exact (sq_not_dct I l.sq l').elim
    | ktup ks =>
      obtain ⟨_, e, l'⟩ := in_ktup.mp h'
      cases e
      exact (lst_not_tup I l.sq l'.sq).elim
  | .tup ds, d', v, h, h' => by
    obtain ⟨a, xs, rfl, l, j⟩ := in_tupS h
    cases d' with
    | non => cases in_non.mp h'
    | bl b => cases in_bl.mp h'
    | int b => cases in_int.mp h'
    | str b => cases in_str.mp h'
    | lst es =>
      obtain ⟨_, ys, e, l', j'⟩ := in_lst.mp h'
      cases e
      exact (lst_not_tup I l'.sq l).elim
    | tup es =>
      obtain ⟨_, ys, e, l', j'⟩ := in_tupS h'
      cases e
      have := I.tuple_inj l l'
      subst this
      rw [Ins.inj I j j']
    | dct o =>
      obtain ⟨_, e, l', _⟩ := in_dct.mp h'
      cases e
      obtain ⟨_, _, e, l, _⟩ := in_tup.mp h
      cases e
      rw [l] at l'
      exact ((MO.d o).ntup (Option.some.inj l').symm).elim
    | ktup ks =>
      obtain ⟨_, e, l'⟩ := in_ktup.mp h'
      cases e
      obtain ⟨_, _, e, l, _⟩ := in_tup.mp h
      cases e
      rw [kfree I l'] at l
      cases l
  | .ktup ks, d', v, h, h' => by
    obtain ⟨a, rfl, l⟩ := in_ktup.mp h
    cases d' with
    | non => cases in_non.mp h'
    | bl b => cases in_bl.mp h'
    | int b => cases in_int.mp h'
    | str b => cases in_str.mp h'
    | lst es =>
      obtain ⟨_, ys, e, l', _⟩ := in_lst.mp h'
      cases e
      exact (lst_not_tup I l'.sq l.sq).elim
    | tup es =>
      obtain ⟨_, ys, e, l', _⟩ := in_tup.mp h'
      cases e
      rw [kfree I l] at l'
      cases l'
    | dct o =>
      obtain ⟨_, e, l', _⟩ := in_dct.mp h'
      cases e
      rw [kfree I l] at l'
      cases l'
    | ktup ks' =>
      obtain ⟨_, e, l'⟩ := in_ktup.mp h'
      cases e
      rw [kVs_inj (I.tuple_inj (l.sq (H := H)) (l'.sq (H := H)))]
  | .dct o, d', v, h, h' => by
    obtain ⟨a, rfl, l, _⟩ := in_dct.mp h
    cases d' with
    | non => cases in_non.mp h'
    | bl b => cases in_bl.mp h'
    | int b => cases in_int.mp h'
    | str b => cases in_str.mp h'
    | lst es =>
      obtain ⟨_, ys, e, l', _⟩ := in_lst.mp h'
      cases e
      exact (sq_not_dct I l'.sq l).elim
    | tup es =>
      obtain ⟨_, ys, e, l', _⟩ := in_tup.mp h'
      cases e
      rw [l'] at l
      exact ((MO.d o).ntup (Option.some.inj l).symm).elim
    | dct o' =>
      obtain ⟨_, e, l', _⟩ := in_dct.mp h'
      cases e
      rw [l] at l'
      rw [DO.inj (Option.some.inj l')]
    | ktup ks =>
      obtain ⟨_, e, l'⟩ := in_ktup.mp h'
      cases e
      rw [kfree I l'] at l
      cases l
theorem Ins.inj (I : Inv X pins σ H s) : ∀ {ds ds' : List D} {vs : List V}, Ins X.K H Z ds vs → Ins X.K H Z' ds' vs → ds = ds'
  | [], ds', _, h, h' => by
    rw [ins_nil.mp h] at h'
    cases ds' with
    | nil => rfl
    | cons d ds => obtain ⟨_, _, e, _⟩ := ins_cons.mp h'; cases e
  | d :: ds, ds', _, h, h' => by
    obtain ⟨v, r, rfl, i, j⟩ := ins_cons.mp h
    cases ds' with
    | nil => cases ins_nil.mp h'
    | cons d' ds' =>
      obtain ⟨v', r', e, i', j'⟩ := ins_cons.mp h'
      cases e
      rw [In.inj I i i', Ins.inj I j j']
end
theorem keqs_is : ∀ (ks : List Key) (ds : List D), keqs ks ds = deqs (ks.map kD) ds
  | [], [] => by simp [keqs, deqs]
  | [], _ :: _ => by simp [keqs, deqs]
  | _ :: _, [] => by simp [keqs, deqs]
  | .inl a :: ks, d :: ds => by
    simp only [keqs, List.map_cons, deqs, kD]
    rw [keqs_is ks ds]
    cases d <;> simp [keq, deq]
  | .inr a :: ks, d :: ds => by
    simp only [keqs, List.map_cons, deqs, kD]
    rw [keqs_is ks ds]
    cases d <;> simp [keq, deq]
theorem deps_kD : ∀ ks : List Key, deps (ks.map kD) = 0
  | [] => by simp [deps]
  | .inl a :: ks => by simp [deps, kD, D.dep, deps_kD ks]
  | .inr a :: ks => by simp [deps, kD, D.dep, deps_kD ks]
open PySem.SeqAt in
/-- == of data, by values -/
theorem eqAt_D (I : Inv X pins σ H s) : ∀ (n : Nat) {A : Around} {d d' : D} {v v' : V} {u u' : Value}, In X.K H Z d v → In X.K H Z' d' v' → RelV v u → RelV v' u' → d.dep ≤ n → A.units + n < cLine → EqAt A s u u' (deq d d') := by
  intro n
  induction n with
  | zero =>
    intro A d d' v v' u u' i i' r r' hd hu
    have hu0 : A.units < cLine := by omega
    have key : ∀ {x : V}, flatV x = true → v = x → (∀ y, In X.K H Z' d' y → RelV y u' → EqAt A s u u' (deq d d')) → EqAt A s u u' (deq d d') := fun _ _ h => h v' i' r'
    cases d with
    | lst ds => unfold D.dep at hd; omega
    | tup ds => unfold D.dep at hd; omega
    | dct o => unfold D.dep at hd; omega
    | ktup o => unfold D.dep at hd; omega
    | non =>
      cases in_non.mp i; cases r
      cases d' with
      | non => cases in_non.mp i'; cases r'; simp only [deq]; exact EqAt.same _
      | bl b => cases in_bl.mp i'; cases r'; simp only [deq]; exact EqAt.none_bool b
      | int b => cases in_int.mp i'; obtain ⟨t, rfl⟩ := r'; simp only [deq]; exact EqAt.none_int b t
      | str b => cases in_str.mp i'; obtain ⟨t, rfl⟩ := r'; simp only [deq]; exact EqAt.none_str b t
      | lst b => obtain ⟨a, xs, rfl, l, j⟩ := in_lst.mp i'; cases r'; obtain ⟨its, _, pl, _⟩ := I.list l.sq; simp only [deq]; exact EqAt.none_list pl.isList hu0
      | tup b => obtain ⟨a, xs, rfl, l, j⟩ := in_tupS i'; cases r'; obtain ⟨its, _, pl, _⟩ := I.tuple l; simp only [deq]; exact EqAt.none_tuple pl hu0
      | dct b => obtain ⟨a, rfl, l, _⟩ := in_dct.mp i'; cases r'; simp only [deq]; exact DEq.at_none (dct_at I l) hu0
      | ktup b => obtain ⟨a, rfl, l⟩ := in_ktup.mp i'; cases r'; obtain ⟨its, _, pl, _⟩ := I.tuple (l.sq (H := H)); simp only [deq]; exact EqAt.none_tuple pl hu0
    | bl x =>
      cases in_bl.mp i; cases r
      cases d' with
      | non => cases in_non.mp i'; cases r'; simp only [deq]; exact EqAt.bool_none x
      | bl b => cases in_bl.mp i'; cases r'; simp only [deq]; exact EqAt.bool_bool x b
      | int b => cases in_int.mp i'; obtain ⟨t, rfl⟩ := r'; simp only [deq]; exact EqAt.bool_int x b t
      | str b => cases in_str.mp i'; obtain ⟨t, rfl⟩ := r'; simp only [deq]; exact EqAt.bool_str x b t
      | lst b => obtain ⟨a, xs, rfl, l, j⟩ := in_lst.mp i'; cases r'; obtain ⟨its, _, pl, _⟩ := I.list l.sq; simp only [deq]; exact EqAt.bool_list x pl.isList hu0
      | tup b => obtain ⟨a, xs, rfl, l, j⟩ := in_tupS i'; cases r'; obtain ⟨its, _, pl, _⟩ := I.tuple l; simp only [deq]; exact EqAt.bool_tuple x pl hu0
      | dct b => obtain ⟨a, rfl, l, _⟩ := in_dct.mp i'; cases r'; simp only [deq]; exact DEq.at_bool x (dct_at I l) hu0
      | ktup b => obtain ⟨a, rfl, l⟩ := in_ktup.mp i'; cases r'; obtain ⟨its, _, pl, _⟩ := I.tuple (l.sq (H := H)); simp only [deq]; exact EqAt.bool_tuple x pl hu0
    | int x =>
      cases in_int.mp i; obtain ⟨t0, rfl⟩ := r
      cases d' with
      | non => cases in_non.mp i'; cases r'; simp only [deq]; exact EqAt.int_none x t0
      | bl b => cases in_bl.mp i'; cases r'; simp only [deq]; exact EqAt.int_bool x t0 b
      | int b => cases in_int.mp i'; obtain ⟨t, rfl⟩ := r'; simp only [deq]; exact EqAt.int_int x t0 b t
      | str b => cases in_str.mp i'; obtain ⟨t, rfl⟩ := r'; simp only [deq]; exact EqAt.int_str x t0 b t
      | lst b => obtain ⟨a, xs, rfl, l, j⟩ := in_lst.mp i'; cases r'; obtain ⟨its, _, pl, _⟩ := I.list l.sq; simp only [deq]; exact EqAt.int_list x t0 pl.isList hu0
      | tup b => obtain ⟨a, xs, rfl, l, j⟩ := in_tupS i'; cases r'; obtain ⟨its, _, pl, _⟩ := I.tuple l; simp only [deq]; exact EqAt.int_tuple x t0 pl hu0
      | dct b => obtain ⟨a, rfl, l, _⟩ := in_dct.mp i'; cases r'; simp only [deq]; exact DEq.at_int x t0 (dct_at I l) hu0
      | ktup b => obtain ⟨a, rfl, l⟩ := in_ktup.mp i'; cases r'; obtain ⟨its, _, pl, _⟩ := I.tuple (l.sq (H := H)); simp only [deq]; exact EqAt.int_tuple x t0 pl hu0
    | str x =>
      cases in_str.mp i; obtain ⟨t0, rfl⟩ := r
      cases d' with
      | non => cases in_non.mp i'; cases r'; simp only [deq]; exact EqAt.str_none x t0
      | bl b => cases in_bl.mp i'; cases r'; simp only [deq]; exact EqAt.str_bool x t0 b
      | int b => cases in_int.mp i'; obtain ⟨t, rfl⟩ := r'; simp only [deq]; exact EqAt.str_int x t0 b t
      | str b => cases in_str.mp i'; obtain ⟨t, rfl⟩ := r'; simp only [deq]; exact EqAt.str_str x t0 b t
      | lst b => obtain ⟨a, xs, rfl, l, j⟩ := in_lst.mp i'; cases r'; obtain ⟨its, _, pl, _⟩ := I.list l.sq; simp only [deq]; exact EqAt.str_list x t0 pl.isList hu0
      | tup b => obtain ⟨a, xs, rfl, l, j⟩ := in_tupS i'; cases r'; obtain ⟨its, _, pl, _⟩ := I.tuple l; simp only [deq]; exact EqAt.str_tuple x t0 pl hu0
      | dct b => obtain ⟨a, rfl, l, _⟩ := in_dct.mp i'; cases r'; simp only [deq]; exact DEq.at_str x t0 (dct_at I l) hu0
      | ktup b => obtain ⟨a, rfl, l⟩ := in_ktup.mp i'; cases r'; obtain ⟨its, _, pl, _⟩ := I.tuple (l.sq (H := H)); simp only [deq]; exact EqAt.str_tuple x t0 pl hu0
  | succ n ih =>
    intro A d d' v v' u u' i i' r r' hd hu
    have hu0 : A.units < cLine := by omega
    have hu1 : A.in1.units + n < cLine := by show A.units + 1 + n < cLine; omega
    have small : d.dep ≤ n → EqAt A s u u' (deq d d') := fun h => ih i i' r r' h (by omega)
    -- the items, one by one
    have items : ∀ {ds es : List D} {xs ys : List V} {its its2 : List Value}, deps ds ≤ n → Ins X.K H Z ds xs → Ins X.K H Z' es ys → Vals xs its → Vals ys its2 → ∀ j (h1 : j < its.toArray.size) (h2 : j < its2.toArray.size),
        EqAt A.in1 s its.toArray[j] its2.toArray[j] (deq (ds.getD j .non) (es.getD j .non)) := fun {ds es xs ys its its2} hdn jx jy rx ry j h1 h2 => by
      have z1 := jx.length; have z2 := jy.length; have z3 := rx.length; have z4 := ry.length
      simp at h1 h2
      have hj1 : j < ds.length := by omega
      have hj2 : j < es.length := by omega
      obtain ⟨x, ex, ix⟩ := jx.get (i := j) (d := ds[j]) (by simp [hj1])
      obtain ⟨y, ey, iy⟩ := jy.get (i := j) (d := es[j]) (by simp [hj2])
      obtain ⟨w1, f1, q1⟩ := rx.get ex
      obtain ⟨w2, f2, q2⟩ := ry.get ey
      have g1 : its.toArray[j] = w1 := by
        have := (List.getElem?_eq_some_iff.mp f1).2
        simpa using this
      have g2 : its2.toArray[j] = w2 := by
        have := (List.getElem?_eq_some_iff.mp f2).2
        simpa using this
      rw [g1, g2]
      have e1 : ds.getD j .non = ds[j] := by simp [hj1]
      have e2 : es.getD j .non = es[j] := by simp [hj2]
      rw [e1, e2]
      exact ih ix iy q1 q2 (Nat.le_trans (deps_mem (List.getElem_mem hj1)) hdn) hu1
    cases d with
    | non => exact small (by simp [D.dep])
    | bl x => exact small (by simp [D.dep])
    | int x => exact small (by simp [D.dep])
    | str x => exact small (by simp [D.dep])
    | dct o => exact absurd hu (by unfold D.dep at hd; have : cLine = 9900 := rfl; omega)
    | ktup ks0 =>
      obtain ⟨a, rfl, l⟩ := in_ktup.mp i
      cases r
      obtain ⟨its, rx, pl, _⟩ := I.tuple (l.sq (H := H))
      have j : Ins X.K H Z (ks0.map kD) (ks0.map kV) := ins_kV ks0
      have hdn : deps (ks0.map kD) ≤ n := by rw [deps_kD]; exact Nat.zero_le _
      cases d' with
      | non => cases in_non.mp i'; cases r'; simp only [deq]; exact EqAt.tuple_none pl hu0
      | bl b => cases in_bl.mp i'; cases r'; simp only [deq]; exact EqAt.tuple_bool b pl hu0
      | int b => cases in_int.mp i'; obtain ⟨t, rfl⟩ := r'; simp only [deq]; exact EqAt.tuple_int b t pl hu0
      | str b => cases in_str.mp i'; obtain ⟨t, rfl⟩ := r'; simp only [deq]; exact EqAt.tuple_str b t pl hu0
      | lst es => obtain ⟨a', ys, rfl, l', j'⟩ := in_lst.mp i'; cases r'; obtain ⟨its2, _, pl2, _⟩ := I.list l'.sq; simp only [deq]; exact EqAt.tuple_list pl pl2.isList hu0
      | dct b => obtain ⟨a', rfl, l', _⟩ := in_dct.mp i'; cases r'; simp only [deq]; exact DEq.at_tuple pl (dct_at I l') hu0
      | ktup ks =>
        obtain ⟨a', rfl, l'⟩ := in_ktup.mp i'
        cases r'
        obtain ⟨its2, ry, pl2, _⟩ := I.tuple (l'.sq (H := H))
        by_cases haa : a = a'
        · subst haa
          have e : D.ktup ks0 = D.ktup ks := In.inj I i i'
          rw [e, deq_refl]
          exact EqAt.same _
        have j' : Ins X.K H Z' (ks.map kD) (ks.map kV) := ins_kV ks
        refine EqAt.of_refs haa ?_
        have z1 := j.length; have z2 := j'.length; have z3 := rx.length; have z4 := ry.length
        simp only [deq]
        rw [keqs_is, ← deqs_range]
        have := RcAt.tuples (e := fun k => deq ((ks0.map kD).getD k .non) ((ks.map kD).getD k .non)) pl pl2 hu0 (items hdn j j' rx ry)
        have e1 : its.toArray.size = (ks0.map kD).length := by simp at z1 z3 ⊢; omega
        have e2 : its2.toArray.size = (ks.map kD).length := by simp at z2 z4 ⊢; omega
        rw [e1, e2] at this
        exact this
      | tup es =>
        obtain ⟨a', ys, rfl, l', j'⟩ := in_tupS i'
        cases r'
        obtain ⟨its2, ry, pl2, _⟩ := I.tuple l'
        have haa : a ≠ a' := fun z => by
          subst z
          obtain ⟨_, _, e, lt, _⟩ := in_tup.mp i'
          cases e
          rw [kfree I l] at lt
          cases lt
        refine EqAt.of_refs haa ?_
        have z1 := j.length; have z2 := j'.length; have z3 := rx.length; have z4 := ry.length
        simp only [deq]
        rw [keqs_is, ← deqs_range]
        have := RcAt.tuples (e := fun k => deq ((ks0.map kD).getD k .non) (es.getD k .non)) pl pl2 hu0 (items hdn j j' rx ry)
        have e1 : its.toArray.size = (ks0.map kD).length := by simp at z1 z3 ⊢; omega
        have e2 : its2.toArray.size = es.length := by simp at z2 z4 ⊢; omega
        rw [e1, e2] at this
        exact this
    | lst ds =>
      have hdn : deps ds ≤ n := by unfold D.dep at hd; omega
      obtain ⟨a, xs, rfl, l, j⟩ := in_lst.mp i
      cases r
      obtain ⟨its, rx, pl, _⟩ := I.list l.sq
      cases d' with
      | non => cases in_non.mp i'; cases r'; simp only [deq]; exact EqAt.list_none pl.isList hu0
      | bl b => cases in_bl.mp i'; cases r'; simp only [deq]; exact EqAt.list_bool b pl.isList hu0
      | int b => cases in_int.mp i'; obtain ⟨t, rfl⟩ := r'; simp only [deq]; exact EqAt.list_int b t pl.isList hu0
      | str b => cases in_str.mp i'; obtain ⟨t, rfl⟩ := r'; simp only [deq]; exact EqAt.list_str b t pl.isList hu0
      | tup es => obtain ⟨a', ys, rfl, l', j'⟩ := in_tupS i'; cases r'; obtain ⟨its2, _, pl2, _⟩ := I.tuple l'; simp only [deq]; exact EqAt.list_tuple pl.isList pl2 hu0
      | dct b => obtain ⟨a', rfl, l', _⟩ := in_dct.mp i'; cases r'; simp only [deq]; exact DEq.at_list pl.isList (dct_at I l') hu0
      | ktup b => obtain ⟨a', rfl, l'⟩ := in_ktup.mp i'; cases r'; obtain ⟨its2, _, pl2, _⟩ := I.tuple (l'.sq (H := H)); simp only [deq]; exact EqAt.list_tuple pl.isList pl2 hu0
      | lst es =>
        obtain ⟨a', ys, rfl, l', j'⟩ := in_lst.mp i'
        cases r'
        obtain ⟨its2, ry, pl2, _⟩ := I.list l'.sq
        by_cases haa : a = a'
        · subst haa
          have e : D.lst ds = D.lst es := In.inj I i i'
          rw [e, deq_refl]
          exact EqAt.same _
        · refine EqAt.of_refs haa ?_
          have z1 := j.length; have z2 := j'.length; have z3 := rx.length; have z4 := ry.length
          simp only [deq]
          rw [← deqs_range]
          by_cases hsz : its.toArray.size = its2.toArray.size
          · have := RcAt.lists (e := fun k => deq (ds.getD k .non) (es.getD k .non)) pl.isList pl2.isList hsz hu0 (items hdn j j' rx ry)
            have e1 : its.toArray.size = min ds.length es.length := by simp at hsz ⊢; omega
            have e2 : (ds.length == es.length) = true := by simp at hsz ⊢; omega
            rw [e1] at this
            rw [e2, Bool.and_true]
            exact this
          · have e2 : (ds.length == es.length) = false := by simp at hsz ⊢; omega
            rw [e2, Bool.and_false]
            exact RcAt.lists_lengths pl.isList pl2.isList (by simpa using hsz) hu0
    | tup ds =>
      have hdn : deps ds ≤ n := by unfold D.dep at hd; omega
      obtain ⟨a, xs, rfl, l, j⟩ := in_tupS i
      cases r
      obtain ⟨its, rx, pl, _⟩ := I.tuple l
      cases d' with
      | non => cases in_non.mp i'; cases r'; simp only [deq]; exact EqAt.tuple_none pl hu0
      | bl b => cases in_bl.mp i'; cases r'; simp only [deq]; exact EqAt.tuple_bool b pl hu0
      | int b => cases in_int.mp i'; obtain ⟨t, rfl⟩ := r'; simp only [deq]; exact EqAt.tuple_int b t pl hu0
      | str b => cases in_str.mp i'; obtain ⟨t, rfl⟩ := r'; simp only [deq]; exact EqAt.tuple_str b t pl hu0
      | lst es => obtain ⟨a', ys, rfl, l', j'⟩ := in_lst.mp i'; cases r'; obtain ⟨its2, _, pl2, _⟩ := I.list l'.sq; simp only [deq]; exact EqAt.tuple_list pl pl2.isList hu0
      | dct b => obtain ⟨a', rfl, l', _⟩ := in_dct.mp i'; cases r'; simp only [deq]; exact DEq.at_tuple pl (dct_at I l') hu0
      | ktup ks =>
        obtain ⟨a', rfl, l'⟩ := in_ktup.mp i'
        cases r'
        obtain ⟨its2, ry, pl2, _⟩ := I.tuple (l'.sq (H := H))
        have j' : Ins X.K H Z' (ks.map kD) (ks.map kV) := ins_kV ks
        have haa : a ≠ a' := fun z => by
          subst z
          obtain ⟨_, _, e, lt, _⟩ := in_tup.mp i
          cases e
          rw [kfree I l'] at lt
          cases lt
        refine EqAt.of_refs haa ?_
        have z1 := j.length; have z2 := j'.length; have z3 := rx.length; have z4 := ry.length
        simp only [deq]
        rw [← deqs_range]
        have := RcAt.tuples (e := fun k => deq (ds.getD k .non) ((ks.map kD).getD k .non)) pl pl2 hu0 (items hdn j j' rx ry)
        have e1 : its.toArray.size = ds.length := by simp; omega
        have e2 : its2.toArray.size = (ks.map kD).length := by simp at z2 z4 ⊢; omega
        rw [e1, e2] at this
        exact this
      | tup es =>
        obtain ⟨a', ys, rfl, l', j'⟩ := in_tupS i'
        cases r'
        obtain ⟨its2, ry, pl2, _⟩ := I.tuple l'
        by_cases haa : a = a'
        · subst haa
          have e : D.tup ds = D.tup es := In.inj I i i'
          rw [e, deq_refl]
          exact EqAt.same _
        · refine EqAt.of_refs haa ?_
          have z1 := j.length; have z2 := j'.length; have z3 := rx.length; have z4 := ry.length
          simp only [deq]
          rw [← deqs_range]
          have := RcAt.tuples (e := fun k => deq (ds.getD k .non) (es.getD k .non)) pl pl2 hu0 (items hdn j j' rx ry)
          have e1 : its.toArray.size = ds.length := by simp; omega
          have e2 : its2.toArray.size = es.length := by simp; omega
          rw [e1, e2] at this
          exact this
end

/-! ### == and != of data -/
section
variable {X : Cx}
open PySem.SeqAt
/-- == and != of two lists, or of two tuples -/
def pairD : D → D → Bool
  | .lst _, .lst _ => true
  | .tup _, .tup _ => true
  | _, _ => false
theorem op_eqD : OpR X (compareOp .Eq) (fun x y H Q => ∃ d d' Z Z', In X.K H Z d x ∧ In X.K H Z' d' y ∧ pairD d d' = true ∧ X.A.units + d.dep < cLine ∧ Q (.bl (deq d d')) H) := by
  intro pins s σ H x y v u Q I rx ry h
  obtain ⟨d, d', Z, Z', i, i', hp, hu, q⟩ := h
  have fin : EP X pins σ Q (.bool (deq d d')) s := ⟨.bl (deq d d'), H, I, rfl, q⟩
  have hu0 : X.A.units < cLine := by omega
  have items : ∀ {ds es : List D} {xs ys : List V} {its its2 : List Value}, deps ds < d.dep → Ins X.K H Z ds xs → Ins X.K H Z' es ys → Vals xs its → Vals ys its2 → ∀ j (h1 : j < its.toArray.size) (h2 : j < its2.toArray.size),
      EqAt X.A.in1 s its.toArray[j] its2.toArray[j] (deq (ds.getD j .non) (es.getD j .non)) := fun {ds es xs ys its its2} hdn jx jy rx ry j h1 h2 => by
    have z1 := jx.length; have z2 := jy.length; have z3 := rx.length; have z4 := ry.length
    simp at h1 h2
    have hj1 : j < ds.length := by omega
    have hj2 : j < es.length := by omega
    obtain ⟨x, ex, ix⟩ := jx.get (i := j) (d := ds[j]) (by simp [hj1])
    obtain ⟨y, ey, iy⟩ := jy.get (i := j) (d := es[j]) (by simp [hj2])
    obtain ⟨w1, f1, q1⟩ := rx.get ex
    obtain ⟨w2, f2, q2⟩ := ry.get ey
    have g1 : its.toArray[j] = w1 := by
      have := (List.getElem?_eq_some_iff.mp f1).2
      simpa using this
    have g2 : its2.toArray[j] = w2 := by
      have := (List.getElem?_eq_some_iff.mp f2).2
      simpa using this
    rw [g1, g2]
    have e1 : ds.getD j .non = ds[j] := by simp [hj1]
    have e2 : es.getD j .non = es[j] := by simp [hj2]
    rw [e1, e2]
    exact eqAt_D I (d.dep - 1) ix iy q1 q2 (by have := deps_mem (List.getElem_mem hj1); omega) (by show X.A.units + 1 + (d.dep - 1) < cLine; omega)
  unfold pairD at hp
  split at hp
  · rename_i ds es
    obtain ⟨a, xs, rfl, l, j⟩ := in_lst.mp i
    obtain ⟨a', ys, rfl, l', j'⟩ := in_lst.mp i'
    cases rx; cases ry
    obtain ⟨its, rx, pl, _⟩ := I.list l.sq
    obtain ⟨its2, ry, pl2, _⟩ := I.list l'.sq
    have z1 := j.length; have z2 := j'.length; have z3 := rx.length; have z4 := ry.length
    simp only [deq] at fin
    rw [← deqs_range] at fin
    by_cases hsz : its.toArray.size = its2.toArray.size
    · have e1 : its.toArray.size = min ds.length es.length := by simp at hsz ⊢; omega
      have e2 : (ds.length == es.length) = true := by simp at hsz ⊢; omega
      rw [e2, Bool.and_true, ← e1] at fin
      exact eq_listAt (e := fun k => deq (ds.getD k .non) (es.getD k .non)) pl.isList pl2.isList hsz hu0 (items (by simp [D.dep]) j j' rx ry) fin
    · have e2 : (ds.length == es.length) = false := by simp at hsz ⊢; omega
      rw [e2, Bool.and_false] at fin
      exact eq_list_lengthsAt pl.isList pl2.isList (by simpa using hsz) hu0 fin
  · rename_i ds es
    obtain ⟨a, xs, rfl, l, j⟩ := in_tupS i
    obtain ⟨a', ys, rfl, l', j'⟩ := in_tupS i'
    cases rx; cases ry
    obtain ⟨its, rx, pl, _⟩ := I.tuple l
    obtain ⟨its2, ry, pl2, _⟩ := I.tuple l'
    have z1 := j.length; have z2 := j'.length; have z3 := rx.length; have z4 := ry.length
    simp only [deq] at fin
    rw [← deqs_range] at fin
    have e1 : its.toArray.size = ds.length := by simp; omega
    have e2 : its2.toArray.size = es.length := by simp; omega
    rw [← e1, ← e2] at fin
    exact eq_tupleAt (e := fun k => deq (ds.getD k .non) (es.getD k .non)) pl pl2 hu0 (items (by simp [D.dep]) j j' rx ry) fin
  · cases hp
theorem op_neD : OpR X (compareOp .NotEq) (fun x y H Q => ∃ d d' Z Z', In X.K H Z d x ∧ In X.K H Z' d' y ∧ pairD d d' = true ∧ X.A.units + d.dep < cLine ∧ Q (.bl (!deq d d')) H) := by
  intro pins s σ H x y v u Q I rx ry h
  obtain ⟨d, d', Z, Z', i, i', hp, hu, q⟩ := h
  have fin : EP X pins σ Q (.bool (!deq d d')) s := ⟨.bl (!deq d d'), H, I, rfl, q⟩
  have hu0 : X.A.units < cLine := by omega
  have items : ∀ {ds es : List D} {xs ys : List V} {its its2 : List Value}, deps ds < d.dep → Ins X.K H Z ds xs → Ins X.K H Z' es ys → Vals xs its → Vals ys its2 → ∀ j (h1 : j < its.toArray.size) (h2 : j < its2.toArray.size),
      EqAt X.A.in1 s its.toArray[j] its2.toArray[j] (deq (ds.getD j .non) (es.getD j .non)) := fun {ds es xs ys its its2} hdn jx jy rx ry j h1 h2 => by
    have z1 := jx.length; have z2 := jy.length; have z3 := rx.length; have z4 := ry.length
    simp at h1 h2
    have hj1 : j < ds.length := by omega
    have hj2 : j < es.length := by omega
    obtain ⟨x, ex, ix⟩ := jx.get (i := j) (d := ds[j]) (by simp [hj1])
    obtain ⟨y, ey, iy⟩ := jy.get (i := j) (d := es[j]) (by simp [hj2])
    obtain ⟨w1, f1, q1⟩ := rx.get ex
    obtain ⟨w2, f2, q2⟩ := ry.get ey
    have g1 : its.toArray[j] = w1 := by
      have := (List.getElem?_eq_some_iff.mp f1).2
      simpa using this
    have g2 : its2.toArray[j] = w2 := by
      have := (List.getElem?_eq_some_iff.mp f2).2
      simpa using this
    rw [g1, g2]
    have e1 : ds.getD j .non = ds[j] := by simp [hj1]
    have e2 : es.getD j .non = es[j] := by simp [hj2]
    rw [e1, e2]
    exact eqAt_D I (d.dep - 1) ix iy q1 q2 (by have := deps_mem (List.getElem_mem hj1); omega) (by show X.A.units + 1 + (d.dep - 1) < cLine; omega)
  unfold pairD at hp
  split at hp
  · rename_i ds es
    obtain ⟨a, xs, rfl, l, j⟩ := in_lst.mp i
    obtain ⟨a', ys, rfl, l', j'⟩ := in_lst.mp i'
    cases rx; cases ry
    obtain ⟨its, rx, pl, _⟩ := I.list l.sq
    obtain ⟨its2, ry, pl2, _⟩ := I.list l'.sq
    have z1 := j.length; have z2 := j'.length; have z3 := rx.length; have z4 := ry.length
    simp only [deq] at fin
    rw [← deqs_range] at fin
    by_cases hsz : its.toArray.size = its2.toArray.size
    · have e1 : its.toArray.size = min ds.length es.length := by simp at hsz ⊢; omega
      have e2 : (ds.length == es.length) = true := by simp at hsz ⊢; omega
      rw [e2, Bool.and_true, ← e1] at fin
      exact RcNeAt.lists (e := fun k => deq (ds.getD k .non) (es.getD k .non)) pl.isList pl2.isList hsz hu0 (items (by simp [D.dep]) j j' rx ry) _ _ _ _ fin
    · have e2 : (ds.length == es.length) = false := by simp at hsz ⊢; omega
      rw [e2, Bool.and_false] at fin
      exact RcNeAt.lists_lengths pl.isList pl2.isList (by simpa using hsz) hu0 _ _ _ _ fin
  · rename_i ds es
    obtain ⟨a, xs, rfl, l, j⟩ := in_tupS i
    obtain ⟨a', ys, rfl, l', j'⟩ := in_tupS i'
    cases rx; cases ry
    obtain ⟨its, rx, pl, _⟩ := I.tuple l
    obtain ⟨its2, ry, pl2, _⟩ := I.tuple l'
    have z1 := j.length; have z2 := j'.length; have z3 := rx.length; have z4 := ry.length
    simp only [deq] at fin
    rw [← deqs_range] at fin
    have e1 : its.toArray.size = ds.length := by simp; omega
    have e2 : its2.toArray.size = es.length := by simp; omega
    rw [← e1, ← e2] at fin
    exact RcNeAt.tuples (e := fun k => deq (ds.getD k .non) (es.getD k .non)) pl pl2 hu0 (items (by simp [D.dep]) j j' rx ry) _ _ _ _ fin
  · cases hp
end
section
variable {X : Cx} {ρ : List (Option D)} {m1 m2 : Bool} {a b : Expr} {d d' : D} {pos : Pos}
theorem e_eqD (ha : E X m1 ρ a d) (hb : E X m2 ρ b d') (hp : pairD d d' = true) (hu : X.A.units + d.dep < cLine) : E X true ρ (.Compare a [.Eq] [b] pos) (.bl (deq d d')) :=
  e_cmp op_eqD ha hb (fun x y H Z Q _ i1 i2 k => ⟨d, d', Z, Z, i1, i2, hp, hu, k _ _ (Same.refl H) (in_bl.mpr rfl)⟩) (nomark _)
theorem t_neD (ha : E X m1 ρ a d) (hb : E X m2 ρ b d') (hp : pairD d d' = true) (hu : X.A.units + d.dep < cLine) : T X ρ (.Compare a [.NotEq] [b] pos) (!deq d d') :=
  t_cmp op_neD ha hb (fun x y H Z Q _ i1 i2 k => ⟨d, d', Z, Z, i1, i2, hp, hu, k _ (Same.refl H)⟩) (nomark _)
end
end Y
set_option Elab.async false
set_option linter.all false
set_option autoImplicit false
set_option maxRecDepth 100000
set_option maxHeartbeats 4000000
/-! MORE: comprehensions stored, lists of lists of a name's own, enumerate, zip, conversions -/
namespace Y
open PySem PySem.Spec PyProof.Rows L2
variable [Tabs]

section
variable {X : Cx} {F : Fn} {ρ : Rho} {Q : EndD} {rest : List Stmt} {e : Expr} {d : D} {pos p : Pos} {x : Str} {fr m1 : Bool} {ds : List D} {dss : List (List D)}
/-! ### name = [.. for ..], the name local: stored within the block -/
theorem sd_setCN (i : Nat) {x : Str} {d : D} (he : EC X true (view true false ρ) e d) (hr : SD X F rest (ρ.set i (some (.pl true d))) Q) (hN : X.N.Nodup) (hi : X.N[i]? = some x := by rfl)
    (hx : Loc X.env.scope x := by first | exact Or.inl rfl | exact Or.inr rfl) (hρ : i < ρ.length := by exact of_decide_eq_true rfl) (hs : swapsWith e (some (.Name x p)) pos.line X.env = pure true := by rfl) (hf : X.fn x = true ∨ X.env.scope.names.lookup x = some .local := by first | exact .inl rfl | exact .inr rfl) :
    SD X F (.Assign [.Name x p] e pos :: rest) ρ Q :=
  sd_then (PS.mono (he.s x i pos p hN hi hx hs hf) fun Q' σ H ⟨hv, hρ', A, hl, S, f⟩ => ⟨_, vz_open S true false, S.env hl true false, fun v H1 s1 i1 => f.nx _ H1 (put_pl hl S hρ s1 (In.up (zn_open S true) i1))⟩) hr

/-! ### lists of lists of a name's own -/
theorem StIn.ow2 {K : PySem.W.Frag} {H : Hp} {σ hv : St} {hρ : Rho} {A : Nat → List Addr} {i : Nat} (S : StIn K F H (σ ++ hv) (ρ ++ hρ) A) (hl : σ.length = ρ.length) (h : ρ[i]? = some (some (.ow2 fr dss))) :
    ∃ l as, σ[i]? = some (some (.ref l)) ∧ A i = l :: as ∧ H l = some (.lst (as.map V.ref)) ∧ RowsAt K H (zn F (Owned A) fr) dss as := by
  have hi : i < ρ.length := (List.getElem?_eq_some_iff.mp h).1
  obtain ⟨v, a, l, as, e1, rfl, e2, j⟩ := S.at' i _ (by rw [List.getElem?_append_left hi]; exact h)
  rw [List.getElem?_append_left (by omega)] at a
  exact ⟨l, as, a, e1, e2, j⟩
theorem RowsAt.length {K : PySem.W.Frag} {H : Hp} {Z : Zone} {as : List Addr} (h : RowsAt K H Z dss as) : dss.length = as.length := Paired.length h
theorem RowsAt.snoc {K : PySem.W.Frag} {H : Hp} {Z : Zone} {as : List Addr} {ds : List D} {a : Addr} {xs : List V} (h : RowsAt K H Z dss as) (e : H a = some (.lst xs)) (i : Ins K H Z ds xs) : RowsAt K H Z (dss ++ [ds]) (as ++ [a]) := Paired.snoc h ⟨xs, e, i⟩
theorem RowsAt.unsnoc {K : PySem.W.Frag} {H : Hp} {Z : Zone} : ∀ {dss : List (List D)} {as : List Addr} {ds : List D}, RowsAt K H Z (dss ++ [ds]) as → ∃ bs a xs, as = bs ++ [a] ∧ RowsAt K H Z dss bs ∧ H a = some (.lst xs) ∧ Ins K H Z ds xs
  | [], as, ds, h => by
    cases h with
    | cons r t => cases t; obtain ⟨xs, e, i⟩ := r; exact ⟨[], _, xs, rfl, .nil, e, i⟩
  | d :: dss, as, ds, h => by
    cases h with
    | cons r t =>
      obtain ⟨bs, a, xs, rfl, h1, e, i⟩ := RowsAt.unsnoc t
      exact ⟨_ :: bs, a, xs, rfl, .cons r h1, e, i⟩
/-- xs.append([]) of an own list of lists -/
theorem sd_append2n (i : Nat) {x : Str} {ap cp : Pos} {dss : List (List D)} (fr : Bool) (h : ρ[i]? = some (some (.ow2 fr dss)) := by rfl) (he : E X true (view true false ρ) e (.lst [])) (hz : dss.length < 1000) (hr : SD X F rest (ρ.set i (some (.ow2 fr (dss ++ [[]])))) Q)
    (hN : X.N[i]? = some x := by rfl) (hv : Vis X.env.scope x := by first | exact Or.inl rfl | exact Or.inr (Or.inl rfl) | exact Or.inr (Or.inr rfl)) (hd : (x == ("__debug__" : Str)) = false := by decide) (hcd : (x == ("__classdict__" : Str)) = false := by decide)
    (hbase : attributeBase (.Name x p) "append" X.env (eval (.Name x p) X.env) = eval (.Name x p) X.env := by rfl) (hline : (ap.endLine == cp.line) = true := by rfl)
    (hs : starEach [e] X.env = [(false, eval e X.env)] := by rfl) (hsw : swapsWith (.Call (.Attribute (.Name x p) "append" ap) [e] [] cp) none pos.line X.env = pure false := by rfl) :
    SD X F (.Expr (.Call (.Attribute (.Name x p) "append" ap) [e] [] cp) pos :: rest) ρ Q := by
  refine sd_then (PS.mono (ps_expr (pe_bm PySem.F.plainAttrs_list PySem.F.slot_list_append PySem.F.type_list_append mt_append (pe_var hN hv hd hcd) (pa_cons he pa_nil (by rw [hs]; rfl)) hbase (by rw [hs]; rfl) hline (by rw [hs]; rfl) rfl) hsw) fun Q' σ H ⟨hv, hρ, A, hl, S, f⟩ => ?_) hr
  obtain ⟨l, as, e1, e2, e3, j⟩ := S.ow2 hl h
  have hi : i < σ.length := (List.getElem?_eq_some_iff.mp e1).1
  refine ⟨.ref l, e1, .inl ⟨rfl, _, SqL.of e3⟩, _, vz_open S true false, S.env hl true false, fun v H1 s1 i1 => ?_⟩
  obtain ⟨a, ys, rfl, at', jn⟩ := in_lst.mp i1
  cases ins_nil.mp jn
  obtain ⟨ea, en⟩ : H1 a = some (.lst []) ∧ H a = none := by
    rcases at' with z | z
    · exact z
    · exact absurd z.1 (by simp [out, nw])
  have hlen : (as.map V.ref).length < sizeLine := by rw [List.length_map, ← j.length]; exact small1000 (by omega)
  refine ⟨l, _, .ref a, rfl, rfl, s1.at e3, hlen, f.nx _ _ ?_⟩
  have hal : a ≠ l := by rintro rfl; rw [e3] at en; cases en
  have haA : ∀ j, a ∉ A j := fun j hj => by obtain ⟨xs, e⟩ := S.lst j a hj; rw [en] at e; cases e
  have hnd := S.nd i
  rw [e2] at hnd
  have hl0 : l ∉ as := (List.nodup_cons.mp hnd).1
  have kk : ∀ b o, H b = some o → isT o = false → b ∉ A i → (upd H1 l (.lst (as.map V.ref ++ [.ref a]))) b = some o := fun b o e n hb => by
    rw [e2] at hb
    have : b ≠ l := fun z => hb (by simp [z])
    rw [upd_ne this]; exact s1.get b o e n
  have mine : ∀ b ∈ l :: (as ++ [a]), b ∈ A i ∨ H b = none := fun b hb => by
    rcases List.mem_cons.mp hb with z | hb
    · exact .inl (by rw [e2, z]; simp)
    · rcases List.mem_append.mp hb with hb | hb
      · exact .inl (by rw [e2]; simp [hb])
      · have : b = a := by simpa using hb
        exact .inr (by rw [this]; exact en)
  refine ⟨_, putA A i (l :: (as ++ [a])), by simp [hl], ?_, rfl⟩
  have key := S.re (i := i) (v := .ref l) (sl := .ow2 fr (dss ++ [[]])) (l := l :: (as ++ [a])) (H2 := upd H1 l (.lst (as.map V.ref ++ [.ref a]))) (by rw [List.length_append]; omega) (by rw [List.length_append]; omega) ((S.same.trans s1).write (S.new i l (by rw [e2]; simp)) (s1.at e3)) kk ?_ (fun b hb => ⟨mine b hb, ?_⟩) ⟨l, as ++ [a], rfl, rfl, ?_, ?_⟩
  · rw [set_self (by rw [List.getElem?_append_left hi]; exact e1), set_app (by omega)] at key
    exact key
  · have n1 : a ∉ l :: as := by rw [← e2]; exact haA i
    rw [← List.cons_append]
    exact List.nodup_append.mpr ⟨hnd, by simp, fun b hb c hc => by
      have : c = a := by simpa using hc
      subst this
      rintro rfl
      exact n1 hb⟩
  · rcases List.mem_cons.mp hb with z | hb
    · exact ⟨.l _, by rw [z, upd_same]; rfl⟩
    · rcases List.mem_append.mp hb with hb | hb
      · have : b ≠ l := fun z => hl0 (z ▸ hb)
        obtain ⟨xs, e⟩ := S.lst i b (by rw [e2]; simp [hb])
        exact ⟨xs, by rw [upd_ne this]; exact s1.at e xs.nt⟩
      · have : b = a := by simpa using hb
        rw [this, upd_ne hal]
        exact ⟨.l _, ea⟩
  · rw [upd_same, List.map_append]; rfl
  · refine RowsAt.snoc (xs := []) (j.carry (fun b xs hb e => ?_) (carry_re S kk mine fr)) (by rw [upd_ne hal]; exact ea) (ins_nil.mpr rfl)
    have : b ≠ l := by rintro rfl; exact hl0 hb
    rw [upd_ne this]; exact s1.at e
/-- xs[-1].append(e) of an own list of lists; e flat -/
theorem sd_append2 (i : Nat) {x : Str} {ap cp sp : Pos} {ix : Expr} {mi : Bool} {dss : List (List D)} {ds : List D} (fr : Bool) {d : D} (h : ρ[i]? = some (some (.ow2 fr (dss ++ [ds]))) := by rfl) (hix : E X mi (view true false ρ) ix (.int (-1))) (he : E X m1 (view true false ρ) e d) (fl : d.flat = true) (hz : ds.length < 1000)
    (hr : SD X F rest (ρ.set i (some (.ow2 fr (dss ++ [ds ++ [d]])))) Q)
    (hN : X.N[i]? = some x := by rfl) (hv : Vis X.env.scope x := by first | exact Or.inl rfl | exact Or.inr (Or.inl rfl) | exact Or.inr (Or.inr rfl)) (hd : (x == ("__debug__" : Str)) = false := by decide) (hcd : (x == ("__classdict__" : Str)) = false := by decide)
    (hpi : PlainIx ix := by intro _ _; rfl) (hbase : attributeBase (.Subscript (.Name x p) ix sp) "append" X.env (eval (.Subscript (.Name x p) ix sp) X.env) = eval (.Subscript (.Name x p) ix sp) X.env := by rfl)
    (hline : (ap.endLine == cp.line) = true := by rfl)
    (hs : starEach [e] X.env = [(false, eval e X.env)] := by rfl) (hsw : swapsWith (.Call (.Attribute (.Subscript (.Name x p) ix sp) "append" ap) [e] [] cp) none pos.line X.env = pure false := by rfl) :
    SD X F (.Expr (.Call (.Attribute (.Subscript (.Name x p) ix sp) "append" ap) [e] [] cp) pos :: rest) ρ Q := by
  refine sd_then (PS.mono (ps_expr (pe_bm PySem.F.plainAttrs_list PySem.F.slot_list_append PySem.F.type_list_append mt_append (pe_ix ix_list (pe_var hN hv hd hcd) hix hpi) (pa_cons he pa_nil (by rw [hs]; rfl)) hbase (by rw [hs]; rfl) hline (by rw [hs]; rfl) rfl) hsw) fun Q' σ H ⟨hv, hρ, A, hl, S, f⟩ => ?_) hr
  obtain ⟨l, as, e1, e2, e3, j⟩ := S.ow2 hl h
  have hi : i < σ.length := (List.getElem?_eq_some_iff.mp e1).1
  obtain ⟨bs, a, xs, rfl, j1, ea, ja⟩ := j.unsnoc
  have hnd := S.nd i
  rw [e2] at hnd
  have hal : a ≠ l := fun z => (List.nodup_cons.mp hnd).1 (by simp [z])
  have hab : a ∉ bs := fun z => by
    have := (List.nodup_append.mp (List.nodup_cons.mp hnd).2).2.2 a z a (by simp)
    exact this rfl
  refine ⟨.ref l, e1, _, vz_open S true false, S.env hl true false, fun y H1 s1 i1 => ⟨l, _, -1, .ref a, rfl, in_int.mp (i1.plain (vz_open S true false)), SqL.of (s1.at e3), ?_, .inl ⟨rfl, xs, SqL.of (s1.at ea)⟩, _, (vz_open S true false).same s1, (S.env hl true false).same s1, fun w H2 s2 i2 => ?_⟩⟩
  · rw [List.map_append]; exact atI_last _ _
  · have s12 := s1.trans s2
    have S2 := S.grow s12
    have hlen : xs.length < sizeLine := by rw [← ja.length]; exact small1000 (by omega)
    refine ⟨a, xs, w, rfl, rfl, s12.at ea, hlen, f.nx _ _ ?_⟩
    have aA : a ∈ A i := by rw [e2]; simp
    have kk : ∀ b o, H2 b = some o → isT o = false → b ∉ A i → (upd H2 a (.lst (xs ++ [w]))) b = some o := fun b o e n hb => by
      have : b ≠ a := fun z => hb (z ▸ aA)
      rw [upd_ne this]; exact e
    have mine : ∀ b ∈ l :: (bs ++ [a]), b ∈ A i ∨ H2 b = none := fun b hb => .inl (by rw [e2]; exact hb)
    refine ⟨_, putA A i (l :: (bs ++ [a])), by simp [hl], ?_, rfl⟩
    have key := S2.re (i := i) (v := .ref l) (sl := .ow2 fr (dss ++ [ds ++ [d]])) (l := l :: (bs ++ [a])) (H2 := upd H2 a (.lst (xs ++ [w]))) (by rw [List.length_append]; omega) (by rw [List.length_append]; omega) (S2.same.write (S2.new i a aA) (s12.at ea)) kk hnd (fun b hb => ⟨mine b hb, ?_⟩) ⟨l, bs ++ [a], rfl, rfl, ?_, ?_⟩
    · rw [set_self (by rw [List.getElem?_append_left hi]; exact e1), set_app (by omega)] at key
      exact key
    · by_cases z : b = a
      · exact ⟨.l _, by rw [z, upd_same]; rfl⟩
      · rw [upd_ne z]
        exact S2.lst i b (by rw [e2]; exact hb)
    · rw [upd_ne (Ne.symm hal)]; exact s12.at e3
    · have c := carry_re S2 kk mine fr
      have sqt : ∀ b (ys : List V), H2 b = some (.tup ys) → (upd H2 a (.lst (xs ++ [w]))) b = some (.tup ys) := c.t
      have j1' : RowsAt X.K H2 (zn F (Owned A) fr) dss bs := j1.carry (fun b ys hb e => s12.at e) (Carry.same s12)
      refine RowsAt.snoc (j1'.carry (fun b ys hb e => ?_) c) upd_same (Ins.append ((ja.same s12).carry c) (Ins.one (In.flat sqt fl i2)))
      have : b ≠ a := fun z => hab (z ▸ hb)
      rw [upd_ne this]; exact e
end
end Y
set_option Elab.async false
set_option linter.all false
set_option autoImplicit false
set_option maxRecDepth 100000
set_option maxHeartbeats 4000000
/-! enumerate, zip -/
namespace Y
open PySem PySem.Spec PyProof.Rows L2
variable [Tabs]

section
variable {X : Cx} {pins : List (Addr × Obj)} {σ : St} {H H' : Hp} {s : Shared} {h' : Heap}
end

section
variable {X : Cx} {ρ : List (Option D)} {m m1 m2 : Bool} {es : List Expr} {kt : Nat} {pt p pos : Pos} {a b : Expr} {ds es' : List D}
theorem e_tupleL (ha : E X m1 ρ a (.lst ds)) (hm : X.mg "tuple" = none) (hg : Gl X "tuple" := by rfl) (hs : starEach [a] X.env = [(false, eval a X.env)] := by rfl) : E X m1 ρ (.Call (.Name "tuple" p) [a] [] pos) (.tup ds) :=
  PE.mono (pe_callTy call_tuple_of hg hm PyProof.Rows.boot_tuple (pa_cons ha pa_nil (by rw [hs]; rfl)) (by decide) (by decide) (by rw [hs]; rfl) rfl) fun σ H Q ⟨Z, oz, en, k⟩ => ⟨Z, oz, en, fun x H1 s1 i1 => by
    obtain ⟨l, xs, rfl, at', j⟩ := in_lst.mp i1
    exact ⟨l, xs, rfl, .inl ⟨at'.sq, fun q hq => k (.ref q) _ (s1.trans (same_new hq)) (in_tup.mpr ⟨q, xs, rfl, upd_same, j.same (same_new hq)⟩)⟩⟩⟩
end
end Y
set_option Elab.async false
set_option linter.all false
set_option autoImplicit false
set_option maxRecDepth 100000
set_option maxHeartbeats 4000000
/-! zip; slices; texts of lists; own lists written by place; what was told and is changed -/
namespace Y
open PySem PySem.Spec PyProof.Rows L2
variable [Tabs]

theorem cut_map {α β : Type} (f : α → β) (l : List α) (a b : Option Int) : cut (l.map f) a b = (cut l a b).map f := by
  unfold cut
  rw [List.length_map, List.map_take, List.map_drop]
theorem smallL {n : Nat} (h : n ≤ 1000) : n ≤ sizeLine := Nat.le_of_lt (small1000 h)
theorem cut_from {α : Type} (xs : List α) (k : Nat) : cut xs (some (k : Int)) none = xs.drop k := by
  unfold cut
  rw [HT.sIx_nat, HT.sIx_none]
  by_cases h : k ≤ xs.length
  · rw [Nat.min_eq_left h]
    exact List.take_of_length_le (by simp)
  · have h' : xs.length ≤ k := by omega
    rw [Nat.min_eq_right h', List.drop_of_length_le h', List.drop_length]
    simp
theorem cut_to {α : Type} (xs : List α) (k : Nat) : cut xs none (some (k : Int)) = xs.take k := by
  unfold cut
  rw [HT.sIx_nat, HT.sIx_none]
  by_cases h : k ≤ xs.length
  · rw [Nat.min_eq_left h]; simp
  · have h' : xs.length ≤ k := by omega
    rw [Nat.min_eq_right h', List.take_of_length_le h']
    simp
theorem cut_both {α : Type} (xs : List α) (j k : Nat) : cut xs (some (j : Int)) (some (k : Int)) = (xs.drop j).take (k - j) := by
  unfold cut
  rw [HT.sIx_nat, HT.sIx_nat]
  by_cases h : j ≤ xs.length
  · rw [Nat.min_eq_left h]
    by_cases h2 : k ≤ xs.length
    · rw [Nat.min_eq_left h2]
    · have h3 : xs.length ≤ k := by omega
      rw [Nat.min_eq_right h3, List.take_of_length_le (by simp), List.take_of_length_le (by simp; omega)]
  · have h' : xs.length ≤ j := by omega
    rw [Nat.min_eq_right h', List.drop_of_length_le h', List.drop_length]
    simp
theorem atI_get {α : Type} {xs : List α} {i : Int} {a : α} (h0 : 0 ≤ i) (h : xs[i.toNat]? = some a) : atI xs i = some a := by
  obtain ⟨k, rfl⟩ := Int.eq_ofNat_of_zero_le h0
  exact atI_nat (by simpa using h)

/-! ### zip -/
section
variable {X : Cx} {ρ : List (Option D)} {m m1 m2 : Bool} {es : List Expr} {kt : Nat} {pt p pos : Pos} {a b : Expr} {ds es' : List D}
end
end Y
set_option Elab.async false
set_option linter.all false
set_option autoImplicit false
set_option maxRecDepth 100000
set_option maxHeartbeats 4000000
/-! list + list; own lists written by place; what was told and is changed -/
namespace Y
open PySem PySem.Spec PyProof.Rows L2
variable [Tabs]

/-! ### list + list -/
section
variable {X : Cx} {pins : List (Addr × Obj)} {σ : St} {H : Hp} {s : Shared}
/-- a list's object, exact but for its slots -/
theorem Inv.listX {a : Addr} {xs : List V} (I : Inv X pins σ H s) (h : SqL X.K H a xs) : ∃ (its : List Value) (n : Nat) (sl : Array (Option Value)), Vals xs its ∧ s.heap.get? a = some { cls := .type "list", dict := none, data := .seq its.toArray n, slots := sl } ∧ xs.length ≤ sizeLine := by
  obtain ⟨its, r, ⟨o, n, e, hc, hd, hs⟩, z⟩ := I.list h
  obtain ⟨cls, dict, data, slots⟩ := o
  simp only at hc hd hs
  subst hc hd hs
  exact ⟨its, n, slots, r, e, z⟩
end
section
variable {X : Cx}
theorem op_catL : OpR X (binaryOp .Add) (fun x y H Q => ∃ l b xs zs, x = .ref l ∧ y = .ref b ∧ SqL X.K H l xs ∧ SqL X.K H b zs ∧ xs.length + zs.length ≤ sizeLine ∧ ∀ p, H p = none → Q (.ref p) (upd H p (.lst (xs ++ zs)))) := by
  intro pins s σ H x y v u Q I rx ry h
  obtain ⟨l, b, xs, zs, rfl, rfl, hH, hB, hz, q⟩ := h
  cases rx
  cases ry
  obtain ⟨its, n, sl, r, e, z⟩ := Inv.listX I hH
  obtain ⟨its2, n2, sl2, r2, e2, z2⟩ := Inv.listX I hB
  have h1 := r.length
  have h2 := r2.length
  refine concat_meets ⟨_, e, rfl⟩ ⟨_, e2, rfl⟩ PySem.noFill_list_add PySem.seq_list_add F.slot_list_add F.entry_list_add (F.args_list_add_2 _ _) (list_addW l b its.toArray its2.toArray n n2 none none sl sl2 (by rw [List.size_toArray, List.size_toArray]; omega)) ⟨e, e2, ?_⟩
  have ea : its.toArray ++ its2.toArray = (its ++ its2).toArray := by simp
  rw [ea]
  exact ⟨.ref _, _, I.lnew (t' := s.toks) (r.append r2) (by rw [List.length_append]; omega), rfl, q _ I.fresh⟩
variable {ρ : List (Option D)} {m m1 m2 : Bool} {a b : Expr} {ds es : List D} {pos : Pos}
theorem e_catL (ha : E X m1 ρ a (.lst ds)) (hb : E X m2 ρ b (.lst es)) (hz : ds.length + es.length ≤ sizeLine) (hm : m = true → (m1 = true ∨ flats ds = true) ∧ (m2 = true ∨ flats es = true) := by intro h; first | cases h | exact ⟨.inl rfl, .inl rfl⟩) : E X m ρ (.BinOp a .Add b pos) (.lst (ds ++ es)) :=
  PE.mono (pe_op op_catL ha hb) fun σ H Q ⟨Z, oz, en, k⟩ => ⟨Z, oz, en, fun x H1 s1 i1 => ⟨Z, oz.same s1, en.same s1, fun y H2 s2 i2 => by
    have s := s1.trans s2
    obtain ⟨p, xs, rfl, lq, j⟩ := in_lst.mp (In.same s2 i1)
    obtain ⟨p', ys, rfl, lq', j'⟩ := in_lst.mp (In.later s1 i2)
    refine ⟨p, p', xs, ys, rfl, rfl, lq.sq, lq'.sq, by rw [← j.length, ← j'.length]; exact hz, fun q hq => k (.ref q) _ (s.trans (same_new hq)) (in_lst.mpr ⟨q, _, rfl, .inl ⟨upd_same, ?_⟩, ?_⟩)⟩
    · cases m
      · exact oz q (s.free hq)
      · exact s.free hq
    · have jc := j.same (same_new (o := .lst (xs ++ ys)) hq)
      have jc' := j'.same (same_new (o := .lst (xs ++ ys)) hq)
      cases m
      · refine Ins.append ?_ ?_
        · cases m1
          · exact jc
          · exact jc.up oz
        · cases m2
          · exact jc'
          · exact jc'.up oz
      · obtain ⟨q1, q2⟩ := hm rfl
        refine Ins.append ?_ ?_
        · rcases q1 with h | h
          · subst h; exact jc
          · exact jc.flat' h
        · rcases q2 with h | h
          · subst h; exact jc'
          · exact jc'.flat' h⟩⟩
end

/-! ### own lists written by place -/
section
variable {X : Cx} {F : Fn} {ρ : Rho} {Q : EndD} {rest : List Stmt} {e : Expr} {d : D} {pos p sp : Pos} {x : Str} {fr m1 mi : Bool} {ds : List D} {dss : List (List D)} {ix : Expr}
end

/-! ### what was told is changed: its lists are all the name's own -/
section
variable {K : PySem.W.Frag} {H H2 : Hp} {Z Z2 : Zone} {g : List D → List D} {l : Addr} {ys : List V}
end
section
variable {X : Cx} {F : Fn} {ρ : Rho} {Q : EndD} {rest : List Stmt} {e o : Expr} {d : D} {pos p sp ap cp : Pos} {x : Str} {fr m1 mi : Bool}
theorem PE.ex {t : D → TE} {q : D → Prop} (h : ∀ d, q d → PE X e (t d)) : PE X e (fun σ H Q => ∃ d, q d ∧ t d σ H Q) := fun pins s σ H Q I ⟨d, hd, z⟩ => h d hd pins s σ H Q I z
theorem StIn.sh {K : PySem.W.Frag} {H : Hp} {σ hv : St} {hρ : Rho} {A : Nat → List Addr} {i : Nat} {q : D → Prop} (S : StIn K F H (σ ++ hv) (ρ ++ hρ) A) (hl : σ.length = ρ.length) (h : ρ[i]? = some (some (.sh q))) :
    ∃ v d, σ[i]? = some (some v) ∧ q d ∧ In K H ⟨true, fun a => a ∈ A i⟩ d v := by
  have hi : i < ρ.length := (List.getElem?_eq_some_iff.mp h).1
  obtain ⟨v, a, d, hq, j⟩ := S.at' i _ (by rw [List.getElem?_append_left hi]; exact h)
  rw [List.getElem?_append_left (by omega)] at a
  exact ⟨v, d, a, hq, j⟩
end
end Y
set_option Elab.async false
set_option linter.all false
set_option autoImplicit false
set_option maxRecDepth 100000
set_option maxHeartbeats 400000
/-! steps that leave every object's dict alone -/
namespace Y
open PySem PySem.Spec PyProof.Rows L2
/-- no call, and no update that changes an object's dict -/
def KD0 {α : Type} : Sem α → Prop
  | .pure _ => True
  | .raise _ => True
  | .unsupported _ => True
  | .finish _ => True
  | .rule _ k => KD0 (k ())
  | .at _ k => KD0 (k ())
  | .load _ _ k => ∀ o, KD0 (k o)
  | .update _ _ f k => (∀ o, (f o).dict = o.dict ∧ (f o).isFreed = o.isFreed) ∧ KD0 (k ())
  | .alloc _ k => ∀ n, KD0 (k n)
  | .loadIfAlive _ k => ∀ o, KD0 (k o)
  | .point _ k => KD0 (k ())
  | .fresh k => ∀ n, KD0 (k n)
  | .ask k => ∀ n, KD0 (k n)
  | .choose _ _ k => ∀ n, KD0 (k n)
  | .handled _ k => ∀ n, KD0 (k n)
  | .genState _ k => ∀ n, KD0 (k n)
  | .stack k => ∀ n, KD0 (k n)
  | .thread k => ∀ n, KD0 (k n)
  | _ => False
def DK (h h' : Heap) : Prop := ∀ b o, h.get? b = some o → ∃ o', h'.get? b = some o' ∧ o'.dict = o.dict
theorem DK.refl (h : Heap) : DK h h := fun _ o e => ⟨o, e, rfl⟩
theorem DK.trans {h h1 h2 : Heap} (x : DK h h1) (y : DK h1 h2) : DK h h2 := fun b o e =>
  let ⟨o1, e1, d1⟩ := x b o e
  let ⟨o2, e2, d2⟩ := y b o1 e1
  ⟨o2, e2, d2.trans d1⟩
theorem DK.push {h : Heap} {o : Obj} : DK h (h.push o) := fun _ o e => ⟨o, Heap.get?_push_of_some _ e, rfl⟩
theorem get_freed {h : Heap} {a : Addr} {o : Obj} (e : h.get? a = some o) : o.isFreed = false := (Heap.get?_some_iff.mp e).2
theorem DK.update {h : Heap} {a : Addr} {f : Obj → Obj} (hf : ∀ o, (f o).dict = o.dict ∧ (f o).isFreed = o.isFreed) : DK h (h.update a f) := fun b o e => by
  by_cases q : a = b
  · subst q
    exact ⟨f o, Heap.get?_update_self f e ((hf o).2.trans (get_freed e)), (hf o).1⟩
  · exact ⟨o, (Heap.get?_update_other _ _ q).trans e, rfl⟩
theorem wp_kd {α : Type} {M : Model} {Γ : PySem.Ctx} {Q : α → Pos → Shared → Prop} {E : Value → Pos → Shared → Prop} {h0 : Heap} :
    ∀ (t : Sem α) (p : Pos) (s : Shared), KD0 t → DK h0 s.heap → Sem.wp M Γ t Q E p s → Sem.wp M Γ t (fun a p s' => Q a p s' ∧ DK h0 s'.heap) E p s
  | .pure a, p, s, _, d, h => ⟨h, d⟩
  | .raise _, _, _, _, _, h => h
  | .unsupported _, _, _, _, _, h => h.elim
  | .finish _, _, _, _, _, h => h.elim
  | .rule _ k, p, s, c, d, h => wp_kd (k ()) p s c d h
  | .at p' k, p, s, c, d, h => wp_kd (k ()) p' s c d h
  | .load _ _ k, p, s, c, d, ⟨o, e, h⟩ => ⟨o, e, wp_kd (k o) p s (c o) d h⟩
  | .update _ _ f k, p, s, c, d, ⟨e, h⟩ => ⟨e, wp_kd (k ()) p _ c.2 (d.trans (DK.update c.1)) h⟩
  | .alloc o k, p, s, c, d, h => wp_kd (k _) p _ (c _) (d.trans DK.push) h
  | .loadIfAlive _ k, p, s, c, d, h => wp_kd (k _) p s (c _) d h
  | .point _ k, p, s, c, d, h => wp_kd (k ()) p s c d h
  | .fresh k, p, s, c, d, h => wp_kd (k _) p { s with toks := s.toks + 1 } (c _) d h
  | .ask k, p, s, c, d, h => wp_kd (k _) p s (c _) d h
  | .choose src n k, p, s, c, d, ⟨e, h⟩ => ⟨e, wp_kd (k _) p { s with drawn := s.drawn.bump src } (c _) d h⟩
  | .handled _ k, p, s, c, d, h => wp_kd (k _) p s (c _) d h
  | .genState _ k, p, s, c, d, ⟨st, e, h⟩ => ⟨st, e, wp_kd (k _) p s (c _) d h⟩
  | .stack k, p, s, c, d, h => wp_kd (k _) p s (c _) d h
  | .thread k, p, s, c, d, h => wp_kd (k _) p s (c _) d h
  | .register _ _, _, _, c, _, _ => c.elim
  | .os _ _ _, _, _, c, _, _ => c.elim
  | .call _ _ _ _ _, _, _, c, _, _ => c.elim
  | .newGen _ _, _, _, c, _, _ => c.elim
  | .resume _ _ _ _, _, _, c, _, _ => c.elim
  | .yield _ _ _ _, _, _, c, _, _ => c.elim
  | .fork _ _, _, _, c, _, _ => c.elim
  | .await _ _ _ _ _, _, _, c, _, _ => c.elim
theorem wpAny_kd {α : Type} {M : Model} {A : Around} {t : Sem α} {Q : α → Shared → Prop} {E : Value → Shared → Prop} {s : Shared} (c : KD0 t) (h : wpAny M A t Q E s) : wpAny M A t (fun a s' => Q a s' ∧ DK s.heap s'.heap) E s :=
  fun Γ p hΓ => wp_kd t p s c (DK.refl _) (h Γ p hΓ)
theorem kd_bind {α β : Type} {f : α → Sem β} (hf : ∀ a, KD0 (f a)) : ∀ {m : Sem α}, KD0 m → KD0 (m.bind f)
  | .pure a, _ => hf a
  | .raise _, _ => trivial
  | .unsupported _, _ => trivial
  | .finish _, _ => trivial
  | .rule _ k, c => kd_bind (m := k ()) hf c
  | .at _ k, c => kd_bind (m := k ()) hf c
  | .load _ _ k, c => fun o => kd_bind hf (c o)
  | .update _ _ _ k, c => ⟨c.1, kd_bind (m := k ()) hf c.2⟩
  | .alloc _ k, c => fun o => kd_bind hf (c o)
  | .loadIfAlive _ k, c => fun o => kd_bind hf (c o)
  | .point _ k, c => kd_bind (m := k ()) hf c
  | .fresh k, c => fun o => kd_bind hf (c o)
  | .ask k, c => fun o => kd_bind hf (c o)
  | .choose _ _ k, c => fun o => kd_bind hf (c o)
  | .handled _ k, c => fun o => kd_bind hf (c o)
  | .genState _ k, c => fun o => kd_bind hf (c o)
  | .stack k, c => fun o => kd_bind hf (c o)
  | .thread k, c => fun o => kd_bind hf (c o)
  | .register _ _, c => c.elim
  | .os _ _ _, c => c.elim
  | .call _ _ _ _ _, c => c.elim
  | .newGen _ _, c => c.elim
  | .resume _ _ _ _, c => c.elim
  | .yield _ _ _ _, c => c.elim
  | .fork _ _, c => c.elim
  | .await _ _ _ _ _, c => c.elim
theorem kd_then {α β : Type} {m : Sem α} {f : α → Sem β} (c : KD0 m) (hf : ∀ a, KD0 (f a)) : KD0 (m >>= f) := kd_bind hf c
theorem kd_pure {α : Type} {a : α} : KD0 (pure a : Sem α) := trivial
theorem kd_load {a : Addr} : KD0 (load a) := fun _ => trivial
theorem kd_update {a : Addr} {f : Obj → Obj} (h : ∀ o, (f o).dict = o.dict ∧ (f o).isFreed = o.isFreed) : KD0 (update a f) := ⟨h, trivial⟩
theorem kd_uns {α : Type} {w : String} : KD0 (unsupported w : Sem α) := trivial
theorem kd_stack : KD0 stack := fun _ => trivial
theorem kd_field {v : Value} {i : Nat} : KD0 (field v i) := by
  unfold field
  refine kd_then ?_ fun vs => ?_
  · unfold fieldsOf
    split
    · refine kd_then kd_load fun o => ?_
      split
      · exact kd_pure
      · exact kd_uns
    · exact kd_uns
  · split
    · exact kd_pure
    · exact kd_uns
theorem mapFields_keeps {f : Array Value → Array Value} (o : Obj) : (o.mapFields f).dict = o.dict ∧ (o.mapFields f).isFreed = o.isFreed := by
  obtain ⟨c, d, dt, sl⟩ := o
  cases dt <;> exact ⟨rfl, rfl⟩
theorem kd_setField {v x : Value} {i : Nat} : KD0 (setField v i x) := by
  unfold setField
  split
  · unfold updateField
    refine kd_then kd_load fun o => ?_
    split
    · split
      · exact kd_update mapFields_keeps
      · exact kd_uns
    · exact kd_uns
  · exact kd_uns
theorem kd_setFlight {e : Value} {f : Option Addr} : KD0 (setFlight e f) := by
  unfold setFlight
  refine kd_then kd_field fun tb => ?_
  split
  · exact kd_setField
  · exact kd_pure
theorem kd_asIs {ty : String} {d : Data} : KD0 (newObjAsIs (.type ty) d) := fun _ => trivial
theorem kd_newFields {ty : String} {vs : List Value} : KD0 (newFields ty vs) := by
  unfold newFields newObj
  dsimp only
  split
  · exact trivial
  · exact kd_asIs
theorem kd_ready : ∀ (l : List Env), KD0 (readyFrames l)
  | [] => trivial
  | env :: outer => by
    unfold readyFrames
    split
    · refine kd_then kd_load fun o => ?_
      split
      · exact kd_pure
      · refine kd_then ?_ fun b => kd_then ?_ fun back => kd_then (kd_update fun o => by obtain ⟨c, d, dt, sl⟩ := o; cases dt <;> exact ⟨rfl, rfl⟩) fun _ => kd_ready outer
        · unfold behindIsImport
          split
          · exact kd_pure
          · split
            · exact kd_pure
            · exact kd_then kd_field fun _ => kd_pure
        · unfold keptBack
          split
          · split
            · exact kd_pure
            · unfold underTheClaimsCaller
              exact kd_then (kd_then kd_stack fun _ => kd_pure) fun _ => kd_pure
          · exact kd_pure
    · exact kd_uns
theorem kd_frameOf {env : Env} : KD0 (PySem.frameOf env) := by
  unfold PySem.frameOf frameEnvs
  refine kd_then (kd_then kd_stack fun _ => kd_pure) fun l => kd_then ?_ fun r => ?_
  · unfold frameObject
    split
    · exact kd_pure
    · exact kd_then (kd_ready _) fun _ => kd_pure
  · split
    · exact kd_pure
    · exact kd_uns
theorem kd_note {e : Value} {env : Env} : KD0 (noteFrame e env) := by
  unfold noteFrame
  split
  · refine kd_then kd_field fun head => ?_
    have fin : KD0 (do setField e 1 (← EntryCells.newEntry head (← PySem.frameOf env) .none (rawInt ‹Addr›) .none (← entryPlaceOf ‹Addr› (head != .none)))) := by
      refine kd_then kd_frameOf fun a => kd_then ?_ fun pl => kd_then kd_newFields fun b => kd_setField
      unfold entryPlaceOf
      refine kd_then kd_stack fun acts => ?_
      split <;> exact trivial
    split
    · refine kd_then kd_field fun x => ?_
      split
      · exact kd_pure
      · exact kd_then kd_setField fun _ => fin
    · exact fin
  · exact kd_uns
theorem kd_leaving {e : Value} {env : Env} : KD0 (leaving env e) := kd_then kd_note fun _ => kd_setFlight
end Y
set_option Elab.async false
set_option linter.all false
set_option autoImplicit false
set_option maxRecDepth 100000
set_option maxHeartbeats 400000
/-! EXCEPTIONS: a def that raises an own exception -/
namespace Y
open PySem PySem.Spec PyProof.Rows L2
variable [Tabs]
/-! ### a heap without some addresses -/
def ground (l : List Addr) (h : Heap) : Heap := { h with objs := h.objs.mapIdx fun i o => if i ∈ l then { o with data := .freed } else o }
theorem ground_out {l : List Addr} {h : Heap} {b : Addr} (hb : b ∈ l) : (ground l h).get? b = none := by
  unfold ground Heap.get?
  simp only [Array.getElem?_mapIdx]
  cases h.objs[b]? with
  | none => rfl
  | some o => simp [hb]
theorem ground_in {l : List Addr} {h : Heap} {b : Addr} (hb : b ∉ l) : (ground l h).get? b = h.get? b := by
  unfold ground Heap.get?
  simp only [Array.getElem?_mapIdx]
  cases h.objs[b]? with
  | none => rfl
  | some o => simp [hb]
theorem ground_stays {l : List Addr} {h : Heap} : (ground l h).StaysIn h := fun b o e => by
  by_cases hb : b ∈ l
  · rw [ground_out hb] at e; cases e
  · rw [ground_in hb] at e; exact e
theorem frames_ground {h base : Heap} : ∀ {l : List Env} {fs : List Addr}, h.FunFrames base l → (∀ b ∈ frs l, b ∈ fs) → h.FunFrames (ground fs h) l
  | [], _, _, _ => trivial
  | env :: rest, fs, x, m => by
    obtain ⟨hk, ⟨L, o, hf, hn, ho, hd⟩, hr⟩ := x
    refine ⟨hk, ⟨L, o, hf, ground_out (m L ?_), ho, hd⟩, frames_ground hr fun b hb => m b ?_⟩
    · unfold frs; rw [List.filterMap_cons, hf]; exact List.mem_cons_self
    · unfold frs at hb ⊢; rw [List.filterMap_cons, hf]; exact List.mem_cons_of_mem _ hb
/-! ### an exception in flight -/
structure Fly (P : Program) (w : World) (outer : List Env) (H : Hp) (s : Shared) (H' : Hp) (a : Addr) (cls : Value) (dct : Option Addr) (s' : Shared) : Prop where
  os : s'.os = s.os
  bare : AllBare s'.gens
  un : Un (frs outer) [] H H' s.heap s'.heap
  hok : HOk P w H' s'.heap
  dt : ∃ oe, s'.heap.get? a = some oe ∧ oe.dict = dct
  fl : ∃ B a0, Heap.FlyingW B outer a cls a0 s'.heap ∧ (∀ b, H' b ≠ none → B.get? b ≠ none) ∧ (∀ b o, s.heap.get? b = some o → b ∉ frs outer → B.get? b ≠ none)
def CX1 (P : Program) (w : World) : CXT := fun outer H s E e s' => ∃ a cls dct H', e = .ref a ∧ Fly P w outer H s H' a cls dct s' ∧ E cls dct H'
theorem ObjOk.obj {P : Program} {w : World} {H : Hp} {h : Heap} {a : Addr} {o : HO} (x : ObjOk P w H h a o) : ∃ u, h.get? a = some u := by
  cases o with
  | lst xs => obtain ⟨_, _, _, _, e⟩ := x; exact ⟨_, e⟩
  | tup xs => obtain ⟨_, _, _, ob, e, _⟩ := x; exact ⟨_, e⟩
  | dK kvs => obtain ⟨_, _, _, _, o, _, _, e, _⟩ := x; exact ⟨_, e⟩
  | dT kvs => obtain ⟨_, _, _, _, o, _, _, e, _⟩ := x; exact ⟨_, e⟩
  | set S n => obtain ⟨o, _, _, _, e, _⟩ := x; exact ⟨_, e⟩
  | ins C dx fs => obtain ⟨_, _, _, e, _⟩ := x; exact ⟨_, e⟩
  | own y => exact x
  | xd fs => obtain ⟨_, ⟨_, _, _, e, _⟩, _⟩ := x; exact ⟨_, e⟩
  | rng lo hi => obtain ⟨_, _, _, e⟩ := x; exact ⟨_, e⟩
  | frz ob u => obtain ⟨e, _⟩ := x; exact ⟨_, e⟩
  | tbl ps => exact ⟨_, (show h.get? a = some _ from x)⟩
  | met f y => exact ⟨_, (show h.get? a = some _ from x)⟩
  | ext φ => obtain ⟨_, e, _⟩ := x; exact e
theorem HOk.kept' {P : Program} {w : World} {H : Hp} {h h' : Heap} (x : HOk P w H h) (k : ∀ b u, H b ≠ none → h.get? b = some u → h'.get? b = some u) : HOk P w H h' := fun a o e =>
  (x a o e).stay (fun b u hb q => k b u (by
    rcases hb with rfl | hb
    · rw [e]; simp
    · rw [hb]; simp) q) (fun _ q => q) fun _ _ q => q
section
variable {P : Program} {w : World} {K : PySem.W.Frag} {mg : Str → Option Value} {base : Heap} {N : List Str} {qual : Str} {scope : Scope} {f : Addr} {cd : Value} {A : Around} {outer : List Env} {s0 : Shared} {H0 : Hp} {Ex : XK}
/-- an exception without a traceback leaves the def -/
theorem xe_gen {pins : List (Addr × Obj)} {σ : L2.St} {H : Hp} {s : Shared} {e : Addr} {oe : Obj} {vs : Array Value} {a0 : Value}
    (I : Inv (cxOf (CX1 P w) P w K mg base N qual scope f cd A outer s0 H0 Ex) pins σ H s) (he : s.heap.get? e = some oe) (hH : H e = none) (hs0 : s0.heap.get? e = none) (hd : oe.data = .fields vs) (h1 : vs[1]? = some .none) (h0 : vs[0]? = some a0) (hE : Ex oe.cls oe.dict H) :
    (cxOf (CX1 P w) P w K mg base N qual scope f cd A outer s0 H0 Ex).xe (.ref e) s := by
  have hst := I.stack
  have hfree := I.stkFree
  have hlt : ∀ b o, s0.heap.get? b = some o → b ≠ s0.heap.objs.size := fun b o q => Nat.ne_of_lt (Heap.lt_size q)
  have hmem : ∀ b, b ∈ frs (envOfC qual scope s0.heap.objs.size f cd :: outer) → b = s0.heap.objs.size ∨ b ∈ frs outer := fun b hb => by
    unfold frs at hb ⊢
    rw [List.filterMap_cons] at hb
    exact List.mem_cons.mp hb
  refine wpAny_mono (wpAny_kd kd_leaving (wpAny_leaving_firstW (M := model P w) (E := fun _ _ => False) (Q := fun _ s' => ∃ h', s' = { s with heap := h' } ∧ Heap.LeftW (ground (e :: frs (envOfC qual scope s0.heap.objs.size f cd :: outer)) s.heap) (envOfC qual scope s0.heap.objs.size f cd :: outer) e oe.cls a0 s.heap h')
    I.ok.frames (frames_ground hst fun b hb => List.mem_cons_of_mem _ hb) rfl he ground_stays (ground_out List.mem_cons_self) hd h1 h0 fun h' hL => ⟨h', rfl, hL⟩)) (fun _ s' ⟨⟨h2, e2, hfl⟩, dk⟩ => ?_) fun _ _ z => z.elim
  subst e2
  obtain ⟨stay, ⟨_, _, frm⟩, tr, hup⟩ := hfl
  have keep : ∀ b o, s.heap.get? b = some o → b ≠ e → b ∉ frs (envOfC qual scope s0.heap.objs.size f cd :: outer) → h2.get? b = some o := fun b o q ne nb => stay b o (by rw [ground_in fun hm => (List.mem_cons.mp hm).elim ne nb]; exact q)
  have ne0 : ∀ b o, s0.heap.get? b = some o → b ≠ e := fun b o q z => by rw [z, hs0] at q; cases q
  refine ⟨e, oe.cls, oe.dict, H, rfl, ⟨I.os, I.bare, ⟨fun b o q n nf ne => ?_, fun b o q n nf ne => ?_, fun b o q n ne => I.base.free b o q n ne, fun b o q ne => ?_, I.base.tups, I.base.frzs, I.base.tbls⟩, ?_, dk e oe he, ⟨_, _, ⟨stay, ground_out List.mem_cons_self, frm, tr⟩, fun b hb => ?_, fun b o q nb => ?_⟩⟩, hE⟩
  · exact keep b o (I.base.keep b o q n nf ne) (ne0 b o q) fun hm => (hmem b hm).elim (hlt b o q) nf
  · obtain ⟨sl, q2⟩ := I.base.slot b o q n nf ne
    obtain ⟨_, o3, q3, nfd⟩ := hst.mem (b := b) (by
      show b ∈ (envOfC qual scope s0.heap.objs.size f cd :: outer).filterMap (·.frame)
      rw [List.filterMap_cons]
      exact List.mem_cons_of_mem _ nf)
    rw [q2] at q3
    cases q3
    obtain ⟨sl2, q4⟩ := hup b _ q2 nfd
    exact ⟨sl2, q4⟩
  · obtain ⟨o', q2⟩ := I.base.there b o q ne
    by_cases hm : b ∈ frs (envOfC qual scope s0.heap.objs.size f cd :: outer)
    · obtain ⟨_, o3, q3, nfd⟩ := hst.mem (b := b) hm
      obtain ⟨sl2, q4⟩ := hup b _ q3 nfd
      exact ⟨_, q4⟩
    · exact ⟨_, keep b o' q2 (ne0 b o q) hm⟩
  · exact HOk.kept' I.hok fun b u hb q => keep b u q (fun z => hb (by rw [z]; exact hH)) fun hm => hb (hfree b hm)
  · cases q : H b with
    | none => exact absurd q hb
    | some o =>
      obtain ⟨u, q2⟩ := ObjOk.obj (I.hok b o q)
      rw [ground_in (l := e :: frs (envOfC qual scope s0.heap.objs.size f cd :: outer)) fun hm => (List.mem_cons.mp hm).elim (fun z => hb (by rw [z]; exact hH)) fun hm => hb (hfree b hm), q2]
      simp
  · obtain ⟨o', q2⟩ := I.base.there b o q (by intro z; cases z)
    rw [ground_in fun hm => (List.mem_cons.mp hm).elim (ne0 b o q) fun hm => (hmem b hm).elim (hlt b o q) nb, q2]
    simp
/-- a new exception leaves the def -/
theorem xe_made {pins : List (Addr × Obj)} {σ : L2.St} {H : Hp} {s : Shared} {h' : Heap} {e : Addr} {cls : Value} {args : List Value}
    (I : Inv (cxOf (CX1 P w) P w K mg base N qual scope f cd A outer s0 H0 Ex) pins σ H s) (hx : Heap.MadeExcOf s.heap h' e cls args) (hE : Ex cls none H) :
    (cxOf (CX1 P w) P w K mg base N qual scope f cd A outer s0 H0 Ex).xe (.ref e) { s with heap := h' } := by
  obtain ⟨t, he, _, _⟩ := hx.there
  have I' : Inv (cxOf (CX1 P w) P w K mg base N qual scope f cd A outer s0 H0 Ex) pins σ H { s with heap := h' } := I.kept (t' := s.toks) fun b o q => hx.keeps b o q
  refine xe_gen I' he ?_ ?_ rfl rfl rfl hE
  · cases q : H e with
    | none => rfl
    | some o => obtain ⟨u, q2⟩ := ObjOk.obj (I.hok e o q); rw [hx.new] at q2; cases q2
  · cases q : s0.heap.get? e with
    | none => rfl
    | some o => obtain ⟨u, q2⟩ := I.base.there e o q (by intro z; cases z); rw [hx.new] at q2; cases q2
end
end Y
set_option Elab.async false
set_option linter.all false
set_option autoImplicit false
set_option maxRecDepth 100000
set_option maxHeartbeats 400000
/-! raise of an own exception -/
namespace Y
open PySem PySem.Spec PyProof.Rows L2
variable [Tabs]
def XE (X : Cx) (Ex : XK) : Prop := ∀ (pins : List (Addr × Obj)) (σ : L2.St) (H : Hp) (s : Shared) (h' : Heap) (e : Addr) (cls : Value) (args : List Value), Inv X pins σ H s → Heap.MadeExcOf s.heap h' e cls args → Ex cls none H → X.xe (.ref e) { s with heap := h' }
/-- an own exception's class without an __init__ of its own: bm its bases in order, bmB the built-in ones -/
structure ExcK (K : PySem.W.Frag) (C : Addr) (bm bmB : List Value) (newId : String) : Prop where
  obj : ∃ (nm q : Str) (N : Addr) (bs : List Value) (hdct : Bool) (sn : List Str) (sub : List Value) (ab : Bool) (col : Option Bool) (dd : Option Addr) (k0 k1 k2 k3 k5 : Option Value),
    K.lookup C = some (excClassObj nm q C N bs bm hdct sn sub ab col dd k0 k1 k2 k3 k5 newId) ∧ PySem.W.nsOkIn K N = true ∧ PySem.W.nsIn K N "__init__" = some none
  tail : PySem.W.tailIn K bmB bm = true
/-- an own exception's class: its bases in order -/
def ExcO (K : PySem.W.Frag) (C : Addr) (bm : List Value) : Prop := ∃ (nm q : Str) (N : Addr) (bs : List Value) (hdct : Bool) (sn : List Str) (sub : List Value) (ab : Bool) (col : Option Bool) (dd : Option Addr) (k0 k1 k2 k3 k5 : Option Value) (nid : String),
    K.lookup C = some (excClassObj nm q C N bs bm hdct sn sub ab col dd k0 k1 k2 k3 k5 nid)
section
variable {X : Cx} {Ex : XK} {x : Str} {C : Addr} {bm bmB : List Value} {B newId initId : String} {e0 : Expr} {t : TA} {np cpos pos : Pos}
theorem ps_raise1 (hx : XE X Ex) (hc : X.calm = true) (hg : Gl X x) (hm : X.mg x = some (.ref C)) (c : ExcK X.K C bm bmB newId) (Fb : ExcBaseFacts B newId initId bmB) (ha : PA X [e0] t)
    (hst : starEach [e0] X.env = [(false, eval e0 X.env)] := by rfl) (hd : (x == ("__debug__" : Str)) = false := by decide) :
    PS X (.Raise (some (.Call (.Name x np) [e0] [] cpos)) none pos) (fun _ σ H => t σ H fun vs H1 => vs.length ≤ 1 ∧ Ex (.ref C) none H1) := by
  intro pins s σ H D I h
  obtain ⟨nm, q, N, bs, hdct, sn, sub, ab, col, dd, k0, k1, k2, k3, k5, lk, ok, ni⟩ := c.obj
  have kin := I.mod.kin
  have T0 := PySem.W.tail_of_in kin c.tail
  have hN : X.base.Ns N (X.base.nsMap N) := .of_isNs (PySem.W.isNs_of_in kin ok)
  refine wpAny_Raise_call_subT (C := C) (nm := nm) (q := q) (N := N) (bs := bs) (bm := bm) (hdct := hdct) (sn := sn) (sub := sub) (ab := ab) (col := col) (dd := dd) (k0 := k0) (k1 := k1) (k2 := k2) (k3 := k3) (k5 := k5)
    Fb (mN := X.base.nsMap N) (T0.hasType Fb.hasBase) (I.ok.hd hc) (by rw [hst]; rfl) (PySem.W.nsMap_none_of_in kin ok ni) (ld_glob I hg hm ⟨rfl, ?_⟩ hd)
  have h1 := ha cpos pins s σ H _ I h
  rw [hst] at h1 ⊢
  refine Calls.evalArgs_plain (thn h1 fun us s1 ⟨vs, H1, I1, r, z, q1⟩ => ⟨rfl, ?_, I1.bk _ _ (kin _ _ lk), hN.keeps I1.bk, T0.keeps I1.bk, fun h' e hmade => hx pins σ H1 s1 h' e _ _ I1 hmade q1⟩)
  have := r.length
  exact Nat.le_trans (by show us.length ≤ 1; omega) (by decide)
end
section
variable {X : Cx} {F : Fn} {ρ : Rho} {Q : EndD} {rest : List Stmt} {Ex : XK} {x : Str} {C : Addr} {bm bmB : List Value} {B newId initId : String} {e0 : Expr} {m1 : Bool} {d : D} {np cpos pos : Pos}
theorem sd_raise1 (hx : XE X Ex) (hm : X.mg x = some (.ref C)) (c : ExcK X.K C bm bmB newId) (Fb : ExcBaseFacts B newId initId bmB) (he : E X m1 (view true false ρ) e0 d) (hE : ∀ H, Same F.H H → Ex (.ref C) none H)
    (hc : X.calm = true := by rfl) (hg : Gl X x := by rfl) (hst : starEach [e0] X.env = [(false, eval e0 X.env)] := by rfl) (hd : (x == ("__debug__" : Str)) = false := by decide) :
    SD X F (.Raise (some (.Call (.Name x np) [e0] [] cpos)) none pos :: rest) ρ Q :=
  sd_seq (N := fun _ => False) (PS.mono (ps_raise1 hx hc hg hm c Fb (pa_cons he pa_nil (by rw [hst]; rfl)) hst hd) fun Q' σ H ⟨hv, hρ, A, hl, S, f⟩ =>
    ⟨_, vz_open S true false, S.env hl true false, fun v H1 s1 i1 => ⟨by simp, hE H1 (S.same.trans s1)⟩⟩) fun _ n => n.elim
end
/-! ### a def that answers, or raises -/
/-- an exception: its class, and the number that it has by the name of at -/
structure XD where
  c : Addr
  n : Option Int := none
def XD.E (x : XD) (E : XK) (H : Hp) : Prop := match x.n with
  | none => ∀ H', Same H H' → E (.ref x.c) none H'
  | some n => ∀ H' dx, Same H H' → H dx = none → H' dx = some (.xd [("at", .int n)]) → E (.ref x.c) (some dx) H'
theorem XD.E.same {x : XD} {E : XK} {H H1 : Hp} (s : Same H H1) (h : x.E E H) : x.E E H1 := by
  unfold XD.E at h ⊢
  split
  · rename_i q; rw [q] at h; exact fun H' s' => h H' (s.trans s')
  · rename_i n q; rw [q] at h; exact fun H' dx s' e => h H' dx (s.trans s') (s.free e)
def spX (K : PySem.W.Frag) (m : Bool) (G : List D → D → Prop) (R : List D → XD → Prop) : Sp := fun vs H Q E => ∃ (Z : Zone) (ds : List D), Z.Open H ∧ Ins K H Z ds vs ∧
  ((∃ d, G ds d ∧ ∀ v H', Same H H' → In K H' (out m Z H) d v → Q v H') ∨ ∃ c, R ds c ∧ c.E E H)
structure DefX (P : Program) (w : World) (K : PySem.W.Frag) (mg : Str → Option Value) (base : Heap) (k : Nat) (x : Str) (m : Bool) (G : List D → D → Prop) (R : List D → XD → Prop) : Prop where
  ex : ∃ f fd ps, FnOk P w K mg base (CX1 P w) k f fd ps (spX K m G R) ∧ mg x = some (.ref f) ∧ PySem.W.keepIn K (.ref f) = true ∧ Binds K fd ps []
section
variable {P : Program} {w : World} {K : PySem.W.Frag} {mg : Str → Option Value} {base : Heap}
theorem def_ofX {x qual : Str} {st : Stmt} {f : Addr} {fd : FuncData} {N ps : List Str} {k : Nat} {m : Bool} {G : List D → D → Prop} {R : List D → XD → Prop} (Fx : Fun K x qual st f fd) (S : FnScope N ps (defScope st)) (hmg : mg x = some (.ref f)) (hb : Binds K fd ps [])
    (hlen : ∀ ds d, G ds d → ds.length = ps.length) (hlenR : ∀ ds c, R ds c → ds.length = ps.length)
    (body : ∀ (cdv : Value) (A : Around) (outer : List Env) (s : Shared) (H : Hp) (E : XK) (Z : Zone) (ds : List D) (d : D), Room k (A.deeper (envOfC qual (defScope st) s.heap.objs.size f cdv)) → G ds d →
      SD (cxOf (CX1 P w) P w K mg base N qual (defScope st) f cdv A outer s H E).nox ⟨m, Z, H⟩ (defBody st) (startD N ds) { nx := fun _ => d = .non, rt := fun d' => d' = d })
    (bodyR : ∀ (cdv : Value) (A : Around) (outer : List Env) (s : Shared) (H : Hp) (E : XK) (Z : Zone) (ds : List D) (c : XD), Room k (A.deeper (envOfC qual (defScope st) s.heap.objs.size f cdv)) → R ds c → c.E E H →
      XE (cxOf (CX1 P w) P w K mg base N qual (defScope st) f cdv A outer s H E) E → SD (cxOf (CX1 P w) P w K mg base N qual (defScope st) f cdv A outer s H E) ⟨m, Z, H⟩ (defBody st) (startD N ds) { nx := fun _ => False, rt := fun _ => False }) :
    DefX P w K mg base (k + 1) x m G R := by
  refine ⟨f, fd, ps, ?_, hmg, Fx.kp, hb⟩
  obtain ⟨oc, od, kV, doc, pm, an, cdv, ct, osl, rfl, lk, hcd⟩ := Fx.ex
  refine fn_of lk hcd S (fun vs H Q E ⟨Z, ds, oz, i, g⟩ => ?_) fun A outer s H vs Q E hr ⟨Z, ds, oz, i, g⟩ => ?_
  · rw [← i.length]
    rcases g with ⟨d, g, _⟩ | ⟨c, g, _⟩
    · exact hlen ds d g
    · exact hlenR ds c g
  · have hl : (L2.start N vs).length = (startD N ds).length := by
      have := i.length
      simp [L2.start, startD]; omega
    rcases g with ⟨d, g, kk⟩ | ⟨c, g, kk⟩
    · refine ⟨_, (body cdv A outer s H E Z ds d hr g).nox, [], [], fun _ => [], hl, start_in oz i, ⟨rfl, fun σ H' ⟨r, A', hl, S', e⟩ => ?_, fun σ H' ⟨r, A', hl, S', e⟩ => e.elim, fun σ H' ⟨r, A', hl, S', e⟩ => e.elim, fun v d' H' s' i' e => ?_, fun _ _ _ _ _ _ _ _ e => e.elim⟩⟩
      · subst e
        exact kk .non H' S'.same (in_non.mpr rfl)
      · subst e
        exact kk v H' s' i'
    · exact ⟨_, bodyR cdv A outer s H E Z ds c hr g kk (fun pins σ H1 s1 h' e cls args I hmk hE => xe_made I hmk hE), [], [], fun _ => [], hl, start_in oz i, ⟨rfl, fun σ H' ⟨r, A', hl, S', e⟩ => e.elim, fun σ H' ⟨r, A', hl, S', e⟩ => e.elim, fun σ H' ⟨r, A', hl, S', e⟩ => e.elim, fun v d' H' s' i' e => e.elim, fun _ _ _ _ _ _ _ _ e => e.elim⟩⟩
end
end Y
set_option Elab.async false
set_option linter.all false
set_option autoImplicit false
set_option maxRecDepth 100000
set_option maxHeartbeats 400000
/-! try: x = f(..), except C as n -/
namespace Y
open PySem PySem.Spec PyProof.Rows L2
variable [Tabs]
/-! ### the exception's way through the frame that catches it -/
section
variable {P : Program} {w : World} {outer : List Env} {H H' : Hp} {s s' : Shared} {a : Addr} {cls a0 : Value} {dct : Option Addr} {B h5 : Heap}
structure FlyB (P : Program) (w : World) (outer : List Env) (H : Hp) (s : Shared) (H' : Hp) (a : Addr) (cls : Value) (dct : Option Addr) (B : Heap) (a0 : Value) (s' : Shared) : Prop where
  os : s'.os = s.os
  bare : AllBare s'.gens
  un : Un (frs outer) [] H H' s.heap s'.heap
  hok : HOk P w H' s'.heap
  dt : ∃ oe, s'.heap.get? a = some oe ∧ oe.dict = dct
  fl : Heap.FlyingW B outer a cls a0 s'.heap
  hB : ∀ b, H' b ≠ none → B.get? b ≠ none
  sB : ∀ b o, s.heap.get? b = some o → b ∉ frs outer → B.get? b ≠ none
theorem Fly.b (f : Fly P w outer H s H' a cls dct s') : ∃ B a0, FlyB P w outer H s H' a cls dct B a0 s' :=
  let ⟨B, a0, x, y, z⟩ := f.fl
  ⟨B, a0, f.os, f.bare, f.un, f.hok, f.dt, x, y, z⟩
theorem FlyB.on (f : FlyB P w outer H s H' a cls dct B a0 s') (x : Heap.FlyingW B outer a cls a0 h5) (u : s'.heap.UpToSlots h5) (dk : DK s'.heap h5) : FlyB P w outer H s H' a cls dct B a0 { s' with heap := h5 } := by
  have same : ∀ b o, s'.heap.get? b = some o → B.get? b ≠ none → h5.get? b = some o := fun b o e n => by
    cases q : B.get? b with
    | none => exact absurd q n
    | some o2 =>
      have := f.fl.1 b o2 q
      rw [e] at this
      cases this
      exact x.1 b o q
  have fr : ∀ b o, b ∈ frs outer → s'.heap.get? b = some o → ∃ sl, h5.get? b = some { o with slots := sl } := fun b o hb e => by
    obtain ⟨_, o3, q3, nf⟩ := f.fl.2.2.1.mem (b := b) hb
    rw [e] at q3
    cases q3
    exact u b o e nf
  refine ⟨f.os, f.bare, ⟨fun b o e n nb ne => same b o (f.un.keep b o e n nb ne) (f.sB b o e nb), fun b o e n hb ne => ?_, f.un.free, fun b o e ne => ?_, f.un.tups, f.un.frzs, f.un.tbls⟩, HOk.kept' f.hok fun b u hb q => same b u q (f.hB b hb), let ⟨o1, e1, d1⟩ := f.dt; let ⟨o2, e2, d2⟩ := dk a o1 e1; ⟨o2, e2, d2.trans d1⟩, x, f.hB, f.sB⟩
  · obtain ⟨sl, e1⟩ := f.un.slot b o e n hb ne
    obtain ⟨sl2, e2⟩ := fr b _ hb e1
    exact ⟨sl2, e2⟩
  · obtain ⟨o1, e1⟩ := f.un.there b o e ne
    by_cases hb : b ∈ frs outer
    · obtain ⟨sl2, e2⟩ := fr b _ hb e1
      exact ⟨_, e2⟩
    · exact ⟨_, same b o1 e1 (f.sB b o e hb)⟩
end
/-- within an except suite: the exception's object is known -/
def handX (X : Cx) (a : Addr) (ps : List (Addr × Obj)) : Cx := { X with A := X.A.mark (some (.ref a)), calm := false, pn := X.pn ++ ps }
def PinOk (X : Cx) (H : Hp) (s : Shared) (p : Addr × Obj) : Prop := s.heap.get? p.1 = some p.2 ∧ H p.1 = none ∧ p.1 ≠ X.env.locals ∧ p.1 ∉ X.fs ∧ ∀ v, p.2.data ≠ .cell v
section
variable {X : Cx} {pins : List (Addr × Obj)} {σ : L2.St} {H H' : Hp} {s s' : Shared} {a : Addr} {cls a0 : Value} {dct : Option Addr} {B : Heap} {oe : Obj} {ps : List (Addr × Obj)}
theorem FlyB.inv (I : Inv X pins σ H s) (f : FlyB X.prog X.w X.stack H s H' a cls dct B a0 s') : Inv X pins σ H' s' := I.call' f.os f.un f.hok f.bare fun b z => nomatch z
theorem hand_ok (o : X.Ok) : (handX X a ps).Ok := ⟨o.mod, o.kind, o.glob, o.blt, o.above, o.inj, o.has, o.cab, fun z => Bool.noConfusion (show false = true from z), o.frames, o.stk, o.exf, o.bs, o.bsz, o.noex, o.exfs, o.funs, o.frf⟩
theorem Inv.hand (I : Inv X pins σ H s) (h : ∀ p ∈ ps, PinOk X H s p) : Inv (handX X a ps) pins σ H s :=
  ⟨hand_ok I.ok, I.os, I.bare, I.base, I.loc, I.cell, I.free, I.freeC, fun p hp => by
    have hp : p ∈ (X.pn ++ ps) ++ pins := hp
    rw [List.append_assoc, List.mem_append] at hp
    rcases hp with hp | hp
    · exact I.pin p (List.mem_append_left _ hp)
    · rcases List.mem_append.mp hp with hp | hp
      · exact h p hp
      · exact I.pin p (List.mem_append_right _ hp), I.hok, I.len⟩
theorem Inv.unhand (ok : X.Ok) (I : Inv (handX X a ps) pins σ H s) : Inv X pins σ H s :=
  ⟨ok, I.os, I.bare, I.base, I.loc, I.cell, I.free, I.freeC, fun p hp => I.pin p (by
    show p ∈ (X.pn ++ ps) ++ pins
    rcases List.mem_append.mp hp with hp | hp <;> simp [hp]), I.hok, I.len⟩
/-- the exception's object, as a pin -/
theorem FlyB.pin (I : Inv X pins σ H s) (hstk : X.stack = X.env :: X.outer) (hfr : X.env.frame = some X.env.locals) (f : FlyB X.prog X.w X.stack H s H' a cls dct B a0 s') : ∃ oe, PinOk X H' s' (a, oe) ∧ oe.cls = cls ∧ oe.dict = dct ∧ ∃ vs, oe.data = .fields vs := by
  obtain ⟨oe, vs, e, hc, hd, _⟩ := f.fl.first
  have nf : a ∉ frs X.stack := fun hm => by
    obtain ⟨_, o3, q3, nfd⟩ := f.fl.2.2.1.mem (b := a) hm
    rw [e] at q3
    cases q3
    exact nfd vs hd
  have mem : ∀ b, b = X.env.locals ∨ b ∈ X.fs → b ∈ frs X.stack := fun b hb => by
    rw [hstk]
    unfold frs
    rw [List.filterMap_cons, hfr]
    rcases hb with rfl | hb
    · exact List.mem_cons_self
    · exact List.mem_cons_of_mem _ hb
  have dte : oe.dict = dct := by
    obtain ⟨o1, e1, d1⟩ := f.dt
    rw [e] at e1
    cases e1
    exact d1
  refine ⟨oe, ⟨e, ?_, fun z => nf (mem a (.inl z)), fun z => nf (mem a (.inr z)), fun v z => by rw [hd] at z; cases z⟩, hc, dte, vs, hd⟩
  cases q : H' a with
  | none => rfl
  | some u => exact absurd f.fl.2.1 (f.hB a (by rw [q]; simp))
/-- a name goes -/
theorem Inv.unname {m : Str → Option Value} {h' : Heap} {n : Str} {j t' : Nat} {v : Option Value} (I : Inv X pins σ H s) (hN : X.N.Nodup) (hj : X.N[j]? = some n) (hk : X.env.kindOf n = some .local) (hn : s.heap.Ns X.env.locals m) (hl : ∀ (i : Nat) (x : Str) (v : V), X.N[i]? = some x → σ[i]? = some (some v) → Vis X.env.scope x → ∃ u, RelV v u ∧ Look X.env s.heap m x u)
    (hn' : h'.Ns X.env.locals fun x => if x = n then v else m x) (hs : Heap.SameBut X.env.locals s.heap h') : Inv X pins (σ.set j none) H { s with heap := h', toks := t' } := by
  have neL : ∀ b o, X.s₀.heap.get? b = some o → b ≠ X.env.locals := fun b o e => Nat.ne_of_lt (Nat.lt_of_lt_of_le (Heap.lt_size e) I.ok.above)
  refine ⟨I.ok, I.os, I.bare, ⟨fun b o e n hb hx => ?_, fun b o e n hb hx => ?_, I.base.free, fun b o e hx => ?_, I.base.tups, I.base.frzs, I.base.tbls⟩, ⟨_, hn', fun i y v' e1 e2 e3 => ?_⟩, fun y c e => ?_, I.free, I.freeC, fun p hp => ?_, HOk.kept' I.hok fun b u hb q => ?_, by rw [List.length_set]; exact I.len⟩
  · exact (hs.2 b (neL b o e)).trans (I.base.keep b o e n hb hx)
  · obtain ⟨sl, e1⟩ := I.base.slot b o e n hb hx
    exact ⟨sl, (hs.2 b (neL b o e)).trans e1⟩
  · obtain ⟨o1, e1⟩ := I.base.there b o e hx
    exact ⟨o1, (hs.2 b (neL b o e)).trans e1⟩
  · have hij : i ≠ j := fun z => by
      subst z
      rw [List.getElem?_set] at e2
      simp at e2
    rw [List.getElem?_set_ne (Ne.symm hij)] at e2
    obtain ⟨u, r, q⟩ := hl i y v' e1 e2 e3
    refine ⟨u, r, ?_⟩
    have ny : y ≠ n := fun z => hij (nodup_ix hN e1 (z ▸ hj))
    rcases q with ⟨k, e⟩ | ⟨k, c, e, z⟩
    · exact .inl ⟨k, by show (if y = n then v else m y) = _; rw [if_neg ny]; exact e⟩
    · exact .inr ⟨k, c, e, z.sameBut hs (I.cne y c e)⟩
  · obtain ⟨w', z⟩ := I.cell y c e
    exact ⟨w', z.sameBut hs (I.cne y c e)⟩
  · obtain ⟨e, n', ne, nf, d⟩ := I.pin p hp
    exact ⟨(hs.2 p.1 ne).trans e, n', ne, nf, d⟩
  · exact (hs.2 b fun z => hb (by rw [z]; exact I.free)).trans q
end
end Y
set_option Elab.async false
set_option linter.all false
set_option autoImplicit false
set_option maxRecDepth 100000
set_option maxHeartbeats 400000
/-! try: x = f(..), except C as n -/
namespace Y
open PySem PySem.Spec PyProof.Rows L2
variable [Tabs]
/-- an own exception is one of its own base -/
theorem exc_parent {M : Model} {A : Around} {E : Value → Shared → Prop} {Q : Bool → Shared → Prop} {h : Heap} {g : Array GenState} {dr : Drawn} {t : Nat} {os : OsState} {a C C' N N' : Addr} {oe : Obj} {nm q nm' q' : Str} {bs bm bs' bm' : List Value} {hd hd' : Bool} {sn sn' : List Str} {sub sub' : List Value} {ab ab' : Bool} {col col' : Option Bool} {dd dd' : Option Addr} {k0 k1 k2 k3 k5 j0 j1 j2 j3 j5 : Option Value} {nid nid' : String}
    (hC : h.get? C = some (excClassObj nm q C N bs bm hd sn sub ab col dd k0 k1 k2 k3 k5 nid)) (he : h.get? a = some oe) (hc : oe.cls = .ref C)
    (hC' : h.get? C' = some (excClassObj nm' q' C' N' bs' bm' hd' sn' sub' ab' col' dd' j0 j1 j2 j3 j5 nid')) (hb : bm'.contains (.type "BaseException") = true) (hin : (Value.ref C :: bm).contains (.ref C') = true)
    (h1 : Q true ⟨h, g, dr, t, os⟩) : wpAny M A (excMatches (.ref a) (.ref C')) Q E ⟨h, g, dr, t, os⟩ := by
  have hB : (Value.ref C' :: bm').contains (.type "BaseException") = true := by rw [List.contains_cons, hb, Bool.or_true]
  have f := tc_notTuple
  unfold excMatches
  repeat (first | (with_reducible refine wpAny_loadPart_at he ?_; rw [hc]) | with_reducible refine wpAny_loadPart_at hC' ?_ | with_reducible refine wpAny_loadPart_at hC ?_ | (with_reducible refine wpAny_isSubtype_exc hC' ?_; rw [hB]) | (with_reducible refine wpAny_isSubtype_exc hC ?_; rw [hin]) | wp_step)
  exact h1
section
variable {X : Cx} {k : Nat} {f : Addr} {fd : FuncData} {ps : List Str} {sp : Sp} {Ex : XK} {x : Str} {p pos : Pos} {e : Expr} {es : List Expr} {t : TA} {pins : List (Addr × Obj)} {σ : L2.St} {H : Hp} {s : Shared} {Q : VK} {Eb : Value → Shared → Prop}
/-- a call that may raise; the names' values are known then -/
theorem wp_callX (hno : ∀ e s, ¬ X.xe e s) (F : FnOk X.prog X.w X.K X.mg X.base (CX1 X.prog X.w) k f fd ps sp) (hr : Room k X.A) (hg : Gl X x) (hm : X.mg x = some (.ref f)) (hk : PySem.W.keepIn X.K (.ref f) = true) (hb : Binds X.K fd ps []) (ha : PA X (e :: es) t)
    (I : Inv X pins σ H s) (h : t σ H fun vs H1 => sp (vs ++ []) H1 Q Ex) (hE : ∀ H1 s1 e s', Inv X pins σ H1 s1 → CX1 X.prog X.w X.stack H1 s1 Ex e s' → Eb e s')
    (hdb : (x == ("__debug__" : Str)) = false := by decide) (he : starEach (e :: es) X.env = (false, eval e X.env) :: starEach es X.env := by rfl) (hpl : (backTo pos (starEach es X.env)).any (·.1) = false := by rfl) :
    wpAny (model X.prog X.w) X.A (eval (.Call (.Name x p) (e :: es) [] pos) X.env) (EP X pins σ Q) Eb s := by
  refine wpAny_Call_Name_kw (ld_glob I hg hm ?_ hdb)
  refine PySem.W.callWith_K (h₀ := X.base) I.ok.mod.kin hk (wpAny_mono (ha pos pins s σ H _ I h) (fun us s1 ⟨vs, H1, I1, r, q⟩ => ⟨I1.kIn, ?_⟩) fun e s z => (hno e s z).elim) he hpl
  have hd : Vals ([] : List V) [] := .nil
  have r2 : Vals (vs ++ []) (us ++ []) := r.append hd
  have hl : (us ++ []).length = ps.length := by rw [← r2.length]; exact F.len _ _ _ _ q
  refine wpAny_call (codeAny_mono (F.run X.A X.stack s1 H1 ⟨us, []⟩ (us ++ []) (vs ++ []) Q Ex hr I1.env0 (hb s1 us I1.kIn hl) r2 q) fun r s' hq => ?_)
  cases r with
  | error e => exact hE H1 s1 e s' I1 hq
  | ok fl =>
    cases fl with
    | ret u => exact I1.after hq
    | next => exact False.elim hq
    | brk => exact False.elim hq
    | cont => exact False.elim hq
end
section
variable {X : Cx} {pins : List (Addr × Obj)} {σ : L2.St} {H H' : Hp} {s s' : Shared} {a C C' : Addr} {dct : Option Addr} {n cn : Str} {j : Nat} {b0 : Stmt} {suite : List Stmt} {hp cp : Pos} {bm bm' : List Value} {Qf : Flow → Shared → Prop} {Dx : Ends}
/-- the exception is caught -/
theorem wp_catch (hno : ∀ e s, ¬ X.xe e s) (I : Inv X pins σ H s) (fly : Fly X.prog X.w X.stack H s H' a (.ref C) dct s') (hstk : X.stack = X.env :: X.outer) (hfr : X.env.frame = some X.env.locals)
    (c : ExcO X.K C bm) (c' : ExcO X.K C' bm') (hb : bm'.contains (.type "BaseException") = true) (hin : (Value.ref C :: bm).contains (.ref C') = true) (hg : Gl X cn) (hm : X.mg cn = some (.ref C')) (hd : (cn == ("__debug__" : Str)) = false)
    (hN : X.N.Nodup) (hj : X.N[j]? = some n) (hk : X.env.kindOf n = some .local)
    (hs : ∀ oe : Obj, oe.cls = .ref C → oe.dict = dct → (∃ vs, oe.data = .fields vs) → ∃ ts, PSs (handX X a [(a, oe)]) (b0 :: suite) ts ∧ ts { nx := fun σ2 H2 => ∀ s2, Inv X pins (σ2.set j none) H2 s2 → Qf .next s2, rt := fun _ _ => False } (σ.set j (some (.ref a))) H') :
    wpAny (model X.prog X.w) X.A (noteFrame (.ref a) X.env) (fun _ s2 => wpAny (model X.prog X.w) X.A (setFlight (.ref a) none) (fun _ s3 => wpAny (model X.prog X.w) X.A (handleBy (.ref a) X.env [.ExceptHandler (some (.Name cn cp)) (some n) (b0 :: suite) hp]) Qf X.xe s3) X.xe s2) X.xe s' := by
  obtain ⟨B, a0, fb⟩ := fly.b
  have hfs : X.A.frames = some (X.env :: X.outer) := by rw [← hstk]; exact I.ok.frames
  have fl0 := fb.fl
  rw [hstk] at fl0
  refine wpAny_mono (wpAny_kd kd_note (wpAny_looks_onW (M := model X.prog X.w) (E := X.xe) (Q := fun _ t => ∃ h4, t = { s' with heap := h4 } ∧ Heap.HeldW B (X.env :: X.outer) a (.ref C) a0 X.env.locals h4 ∧ s'.heap.UpToSlots h4) hfs hfr fl0 fun h4 held up4 => ⟨h4, rfl, held, up4⟩)) (fun _ t ⟨⟨h4, e4, held, up4⟩, dk4⟩ => ?_) fun _ _ z => z
  subst e4
  refine wpAny_mono (wpAny_kd kd_setFlight (wpAny_landsW (M := model X.prog X.w) (E := X.xe) (s := { s' with heap := h4 }) (Q := fun _ t => ∃ h5, t = { s' with heap := h5 } ∧ Heap.FlyingW B (X.env :: X.outer) a (.ref C) a0 h5 ∧ h4.UpToSlots h5) held fun h5 fl5 up5 => ⟨h5, rfl, fl5, up5⟩)) (fun _ t ⟨⟨h5, e5, fl5, up5⟩, dk5⟩ => ?_) fun _ _ z => z
  subst e5
  rw [← hstk] at fl5
  have fb5 := fb.on fl5 (up4.trans up5) (dk4.trans dk5)
  have I5 := fb5.inv I
  obtain ⟨oe, pin, hcls, _, hfld⟩ := fb5.pin I hstk hfr
  have J5 := Inv.hand (a := a) (ps := [(a, oe)]) I5 fun p hp => by rw [List.mem_singleton.mp hp]; exact pin
  obtain ⟨nm, q, N, bs, hdct, sn, sub, ab, col, dd, k0, k1, k2, k3, k5, nid, lk⟩ := c
  obtain ⟨nm', q', N', bs', hdct', sn', sub', ab', col', dd', j0, j1, j2, j3, j5, nid', lk'⟩ := c'
  refine wpAny_handleBy_cons (codeAny_handlers_test (ld_glob (X := handX X a [(a, oe)]) J5 hg hm ?_ hd)) (by intro z; cases z)
  refine exc_parent (I5.kIn _ _ lk) pin.1 hcls (I5.kIn _ _ lk') hb hin ?_
  refine codeAny_handlers_suite_as ?_
  refine wpAny_mono (wpAny_kd kd_setFlight (lands_againW (M := model X.prog X.w) (E := X.xe) (s := { s' with heap := h5 }) (Q := fun _ t => ∃ h6, t = { s' with heap := h6 } ∧ Heap.FlyingW B X.stack a (.ref C) a0 h6 ∧ h5.UpToSlots h6) fl5 fun h6 fl6 up6 => ⟨h6, rfl, fl6, up6⟩)) (fun _ t ⟨⟨h6, e6, fl6, up6⟩, dk6⟩ => ?_) fun e s z => (hno e s z).elim
  subst e6
  have fb6 := fb5.on fl6 up6 dk6
  have I6 := fb6.inv I
  obtain ⟨oe6, pin6, hcls6, hdct6, hfld6⟩ := fb6.pin I hstk hfr
  have J6 := Inv.hand (a := a) (ps := [(a, oe6)]) I6 fun p hp => by rw [List.mem_singleton.mp hp]; exact pin6
  refine store_ok (X := handX X a [(a, oe6)]) J6 hN hj (.inl hk) (v := .ref a) rfl (fun s7 J7 => ?_) (.inr hk)
  obtain ⟨ts, h1, h2⟩ := hs oe6 hcls6 hdct6 hfld6
  refine wpAny_mono (h1 pins s7 _ _ _ J7 h2) (fun fl s8 h8 => ?_) fun e s z => (hno e s z).elim
  cases fl with
  | next =>
    obtain ⟨σ8, H8, J8, q8⟩ := h8
    have I8 := Inv.unhand I.ok J8
    obtain ⟨m, hn, hl⟩ := id I8.loc
    exact wpAny_nameGoes_keeps hk hn (by rw [I.ok.kind]; rfl) fun h9 v hn9 hs9 => q8 _ (Inv.unname I8 hN hj hk hn hl hn9 hs9)
  | ret v => obtain ⟨_, _, _, _, _, z⟩ := h8; exact z.elim
  | brk => obtain ⟨_, _, _, z⟩ := h8; exact z.elim
  | cont => obtain ⟨_, _, _, z⟩ := h8; exact z.elim
end
end Y
set_option Elab.async false
set_option linter.all false
set_option autoImplicit false
set_option maxRecDepth 100000
set_option maxHeartbeats 400000
/-! an own exception's attributes; isinstance of one -/
namespace Y
open PySem PySem.Spec PyProof.Rows L2
open PySem.W (Frag InstAt findIn findObj looks_findIn looks_find looks_mroIn mroIn KitX kia_one kitOne)
/-- how an own exception's class finds attributes -/
structure ExcG (K : Frag) (C : Addr) : Prop where
  ga : findIn K (.ref C) "__getattribute__" = some (some (.builtin "BaseException.__getattribute__"))
  gt : findIn K (.ref C) "__getattr__" = some none
  be : mroIn K C (.type "BaseException") = some true
  ob : mroIn K C (.type "object") = some true
  cl : findIn K (.ref C) "__class__" = some (some (.builtin "object.__class__"))
  cs : (PySem.W.clsIn K C).isSome = true
  me : PySem.W.kitCls K (.ref C) (.ref C) = some true
  gn : PySem.W.specialIn K (.builtin "object.__class__") "__get__" = some (some (.builtin "getset_descriptor.__get__"))
  tk : PySem.W.takesIn K (.builtin "object.__class__") = some true
section
variable {prog : Program} {w : World} {A : Around} {E : Value → Shared → Prop} {s : Shared} {K : Frag} {x C : Addr} {ox : Obj} {od : Option Obj} {name : Str}
theorem exc_check {M : Model} {nameV : Value} {Q : Unit → Shared → Prop} (X : K.In s.heap) (I : InstAt s.heap x ox C od) (G : ExcG K C) (h : Q () s) : wpAny M A (checkBuiltinCall "BaseException.__getattribute__" ⟨[.ref x, nameV], []⟩) Q E s := by
  obtain ⟨hh, g, d, t, os⟩ := s
  have L0 := I.type (M := M)
  have L1 := looks_mroIn (M := M) X G.be
  have hk : builtinKind "BaseException.__getattribute__" = some .slot := by decide +kernel
  have hsplit : splitId "BaseException.__getattribute__" = some ("BaseException", "__getattribute__") := by decide +kernel
  have ha := F.args_bexc_ga (.ref x) nameV
  simp only [checkBuiltinCall, hk, hsplit]
  unfold isInstance
  repeat (first | lk | wp_step)
  exact h
theorem exc_run {tk : Tok} {fill expr : Bool} {Q : Value → Shared → Prop} (X : K.In s.heap) (I : InstAt s.heap x ox C od) (G : ExcG K C)
    (h : ∀ A', wpAny (model prog w) A' (Builtin.«object.__getattribute__» ⟨[.ref x, .str name tk], []⟩) (fun fin s' => match fin with | .done (.ret v) => wpAny (model prog w) A (handedOut v) Q E s' | _ => False) (fun _ _ => False) s) :
    wpAny (model prog w) A (getAttrBy (.ref x) (.str name tk) fill expr) Q E s := by
  obtain ⟨hh, g, d, t, os⟩ := s
  have L0 := I.type (M := model prog w)
  have L1 := looks_findIn (M := model prog w) X G.ga
  have L2 := looks_findIn (M := model prog w) X G.gt
  have fb := F.excAttr_ValueError.ga.bind (.ref x)
  unfold getAttrBy
  refine wpAny_holding (wpAny_bind (L0.at (wpAny_bind (L1.at ?_))))
  have hx2 : (onTheHeap (Value.ref C) && Value.builtin "BaseException.__getattribute__" == Value.builtin "object.__getattribute__") = false := by
    rw [show (Value.builtin "BaseException.__getattribute__" == Value.builtin "object.__getattribute__") = false by decide +kernel, Bool.and_false]
  have hx0 : (expr && onTheHeap (Value.builtin "BaseException.__getattribute__")) = false := by cases expr <;> rfl
  simp only [hx2, Bool.false_eq_true, if_false]
  unfold getAttrByItsOwn hookBefore callGetattribute boundAndCalled
  simp only [Bool.and_false, Bool.false_eq_true, if_false, onTheHeap, if_true]
  refine wpAny_bind (L2.at (wpAny_bind (wpAny_attempt (wpAny_holding ?_))))
  rw [fb]
  refine wpAny_bind (wpAny_pure (wpAny_call ?_))
  refine codeAny_call_builtin F.excAttr_ValueError.ga.plain F.entry_bexc_ga (exc_check X I G ?_)
  refine wpAny_mono (h _) (fun fin s' z => ?_) fun _ _ z => z.elim
  rcases fin with (_ | _ | _ | _) | _ <;> first | exact z | exact z.elim
theorem exc_entry {tk : Tok} {g a : Value} {Q : Fin → Shared → Prop} (X : K.In s.heap) (I : InstAt s.heap x ox C od) (hf : findObj K C od name = some (.bind g a)) (h : wpAny (model prog w) A (call g [a, .ref x, .ref C]) (fun v s' => Q (.done (.ret v)) s') E s) :
    wpAny (model prog w) A (Builtin.«object.__getattribute__» ⟨[.ref x, .str name tk], []⟩) Q E s := by
  obtain ⟨hh, gg, d, t, os⟩ := s
  have L0 := I.type (M := model prog w)
  have L1 := looks_find (M := model prog w) X I hf
  unfold Builtin.«object.__getattribute__»
  refine wpAny_bind (wpAny_pure (wpAny_bind (wpAny_pure (wpAny_bind (L0.at (wpAny_bind (L1.at ?_)))))))
  exact wpAny_bind (wpAny_holding (wpAny_mono h (fun v s' z => wpAny_pure z) fun _ _ z => z))
theorem exc_class {Q : Option Value → Shared → Prop} (X : K.In s.heap) (I : InstAt s.heap x ox C od) (G : ExcG K C) (h : Q (some (.ref C)) { s with toks := s.toks + 1 }) : wpAny (model prog w) A (getAttr? (.ref x) "__class__") Q E s := by
  have hf : findObj K C od "__class__" = some (.bind (.builtin "getset_descriptor.__get__") (.builtin "object.__class__")) := by
    obtain ⟨cd, hc⟩ := Option.isSome_iff_exists.mp G.cs
    unfold findObj
    rw [hc, Option.bind_some, G.cl, Option.bind_some]
    simp [G.gn, G.tk]
  unfold getAttr? getAttrBy?
  refine wpAny_bind (wpAny_mkText (wpAny_bind (wpAny_attempt ?_)))
  refine exc_run (s := { s with toks := s.toks + 1 }) X I G fun A' => exc_entry (s := { s with toks := s.toks + 1 }) X I hf ?_
  exact wpAny_call (PySem.W.class_get (s := { s with toks := s.toks + 1 }) (ox := ox) (od := od) X I G.ob (PySem.W.handed_on rfl (wpAny_pure h)))
/-- isinstance of an own exception -/
theorem kitx_exc (G : ExcG K C) : KitX K (.ref x) (.ref C) (fun h => InstAt h x ox C od) where
  ty := fun _ _ _ I => I.type
  it := fun _ _ X _ => (PySem.W.kit_cls X G.me).2.1
  ne := fun h tp dd its n sl X htp => by
    obtain ⟨cd, hc⟩ := Option.isSome_iff_exists.mp G.cs
    refine Bool.eq_false_iff.mpr fun q => ?_
    cases Value.ref.inj (beq_iff_eq.mp q)
    unfold PySem.W.clsIn at hc
    split at hc
    · cases (X _ _ ‹_›).symm.trans htp
    · cases hc
  ca := fun X I k => exc_class X I G k
end
/-! ### a name that holds an exception: its value is known -/
variable [Tabs]
def tXW (K : PySem.W.Frag) (i : Nat) (a : Addr) (m : Bool) (ρ : List (Option D)) (d : D) : TE := fun σ H Q => σ[i]? = some (some (.ref a)) ∧ tE K m ρ d σ H Q
def XW (X : Cx) (i : Nat) (a : Addr) (m : Bool) (ρ : List (Option D)) (e : Expr) (d : D) : Prop := PE X e (tXW X.K i a m ρ d)
def tXWA (K : PySem.W.Frag) (i : Nat) (a : Addr) (ρ : List (Option D)) (ds : List D) : TA := fun σ H Q => σ[i]? = some (some (.ref a)) ∧ tEA K ρ ds σ H Q
def XWA (X : Cx) (i : Nat) (a : Addr) (ρ : List (Option D)) (es : List Expr) (ds : List D) : Prop := PA X es (tXWA X.K i a ρ ds)
section
variable {X : Cx} {i : Nat} {a C : Addr} {oe : Obj} {od : Option Obj} {m m1 m2 : Bool} {ρ : List (Option D)} {e b : Expr} {es : List Expr} {d : D} {ds es' : List D} {x : Str} {p p2 pn pos : Pos} {bv : Bool}
theorem XW.of (h : E X m ρ e d) : XW X i a m ρ e d := PE.mono h fun σ H Q q => q.2
theorem xwa_nil : XWA X i a ρ [] [] := PA.mono ea_nil fun σ H Q q => q.2
theorem xwa_cons (ha : XW X i a m1 ρ e d) (hr : XWA X i a ρ es ds) (hs : starEach (e :: es) X.env = (false, eval e X.env) :: starEach es X.env := by rfl) : XWA X i a ρ (e :: es) (d :: ds) :=
  PA.mono (pa_cons ha hr hs) fun σ H Q ⟨e, Z, oz, en, k⟩ => ⟨e, Z, oz, en, fun v H1 s1 i1 => ⟨e, Z, oz.same s1, en.same s1, fun vs H2 s2 i2 => k _ _ (s1.trans s2) (ins_cons.mpr ⟨v, vs, rfl, (i1.plain oz).same s2, i2⟩)⟩⟩
/-- the exception is known within the suite -/
structure ExcP (X : Cx) (a C : Addr) (oe : Obj) (od : Option Obj) : Prop where
  pin : (a, oe) ∈ X.pn
  cls : oe.cls = .ref C
  no : PySem.W.notCls oe = true
  dct : match oe.dict, od with
    | some dx, some o => (dx, o) ∈ X.pn
    | none, none => True
    | _, _ => False
  g : ExcG X.K C
theorem ExcP.inst {pins : List (Addr × Obj)} {σ : St} {H : Hp} {s : Shared} (p : ExcP X a C oe od) (I : Inv X pins σ H s) : InstAt s.heap a oe C od := by
  refine ⟨(I.pin _ (List.mem_append_left _ p.pin)).1, p.cls, p.no, ?_⟩
  have h := p.dct
  split at h
  · rename_i e
    simp only [e]
    exact (I.pin _ (List.mem_append_left _ h)).1
  · rename_i e
    simp only [e]
  · exact h.elim
theorem call_isiX (p : ExcP X a C oe od) : CallR X (.builtin "isinstance") (fun xs H Q => ∃ v c, xs = [.ref a, v] ∧ (∀ u, RelV v u → u = c) ∧ kitOne X.K (.ref C) c = some bv ∧ Q (.bl bv) H) := by
  intro pins s σ H xs us Q I r ⟨v, c, e, hc, ho, q⟩
  subst e
  obtain ⟨u, w', rfl, ru, rw'⟩ := vals2 r
  cases ru
  rw [hc _ rw']
  exact kia_one (kitx_exc p.g) I.kIn (p.inst I) ho (by intro z; cases z) fun tk => ⟨.bl bv, H, I.tok tk, rfl, q⟩
theorem tXW_name {y : Str} (hN : X.N[i]? = some y) (hv : Vis X.env.scope y) (hd : (y == ("__debug__" : Str)) = false) (hcd : (y == ("__classdict__" : Str)) = false) :
    PE X (.Name y p) (fun σ H Q => σ[i]? = some (some (.ref a)) ∧ Q (.ref a) H) := PE.mono (pe_var hN hv hd hcd) fun σ H Q ⟨e, k⟩ => ⟨_, e, k⟩
/-- isinstance(name, class), the name an exception; the class an own one -/
theorem xw_isi {y cn : Str} {D' : Addr} (hp : ExcP X a C oe od) (ho : kitOne X.K (.ref C) (.ref D') = some bv) (hm2 : X.mg cn = some (.ref D')) (hm : X.mg "isinstance" = none) (hN : X.N[i]? = some y := by rfl) (hg : Gl X "isinstance" := by rfl) (hg2 : Gl X cn := by rfl)
    (hv : Vis X.env.scope y := by first | exact Or.inl rfl | exact Or.inr (Or.inl rfl) | exact Or.inr (Or.inr rfl)) (hd : (y == ("__debug__" : Str)) = false := by decide) (hcd : (y == ("__classdict__" : Str)) = false := by decide) (hd2 : (cn == ("__debug__" : Str)) = false := by decide)
    (hs : starEach [.Name y p, .Name cn p2] X.env = [(false, eval (.Name y p) X.env), (false, eval (.Name cn p2) X.env)] := by rfl) (hs2 : starEach [.Name cn p2] X.env = [(false, eval (.Name cn p2) X.env)] := by rfl) :
    XW X i a m ρ (.Call (.Name "isinstance" pn) [.Name y p, .Name cn p2] [] pos) (.bl bv) :=
  PE.mono (pe_callB (call_isiX hp) hg hm boot_isinstance (pa_cons (tXW_name (a := a) hN hv hd hcd) (pa_cons (pe_glob (v := .ref D') hg2 hm2 rfl hd2) pa_nil (by rw [hs2]; rfl)) (by rw [hs, hs2])) (by decide) (by decide) (by rw [hs, hs2]) (by rw [hs2]; rfl)) fun σ H Q ⟨e, Z, oz, en, k⟩ =>
    ⟨e, .ref D', .ref D', rfl, fun u r => r, ho, k _ H (Same.refl H) (in_bl.mpr rfl)⟩
/-- .. a built-in one -/
theorem xw_isiT {y cn : Str} {T : String} (hp : ExcP X a C oe od) (ho : kitOne X.K (.ref C) (.type T) = some bv) (hb : bootBuiltins cn = some (.type T)) (hm2 : X.mg cn = none) (hm : X.mg "isinstance" = none) (hN : X.N[i]? = some y := by rfl) (hg : Gl X "isinstance" := by rfl) (hg2 : Gl X cn := by rfl)
    (hv : Vis X.env.scope y := by first | exact Or.inl rfl | exact Or.inr (Or.inl rfl) | exact Or.inr (Or.inr rfl)) (hd : (y == ("__debug__" : Str)) = false := by decide) (hcd : (y == ("__classdict__" : Str)) = false := by decide) (hd2 : (cn == ("__debug__" : Str)) = false := by decide) (hn : cn ≠ "__name__" := by decide)
    (hs : starEach [.Name y p, .Name cn p2] X.env = [(false, eval (.Name y p) X.env), (false, eval (.Name cn p2) X.env)] := by rfl) (hs2 : starEach [.Name cn p2] X.env = [(false, eval (.Name cn p2) X.env)] := by rfl) :
    XW X i a m ρ (.Call (.Name "isinstance" pn) [.Name y p, .Name cn p2] [] pos) (.bl bv) :=
  PE.mono (pe_callB (call_isiX hp) hg hm boot_isinstance (pa_cons (tXW_name (a := a) hN hv hd hcd) (pa_cons (pe_bltn (v := .ty T) hg2 hm2 hb rfl hn hd2) pa_nil (by rw [hs2]; rfl)) (by rw [hs, hs2])) (by decide) (by decide) (by rw [hs, hs2]) (by rw [hs2]; rfl)) fun σ H Q ⟨e, Z, oz, en, k⟩ =>
    ⟨e, .ty T, .type T, rfl, fun u r => r, ho, k _ H (Same.refl H) (in_bl.mpr rfl)⟩
theorem xw_tup {x1} (h : XWA X i a ρ es ds) (f : flats ds = true := by rfl) (hz : ds.length ≤ 1000 := by exact of_decide_eq_true rfl) : XW X i a m ρ (.Tuple es x1 pos) (.tup ds) :=
  PE.mono (pe_tup h) fun σ H Q ⟨e, Z, oz, en, k⟩ => ⟨e, Z, oz, en, fun vs H1 s1 i1 => ⟨by rw [← i1.length]; exact Nat.le_trans hz (Nat.le_of_lt (small1000 (Nat.le_refl _))), fun p hp =>
    k (.ref p) _ (s1.trans (same_new hp)) (In.outflat f (in_tup.mpr ⟨p, vs, rfl, upd_same, i1.same (same_new hp)⟩))⟩⟩
theorem xw_lst (h : XWA X i a ρ es ds) (f : flats ds = true := by rfl) (hz : ds.length ≤ 1000 := by exact of_decide_eq_true rfl) : XW X i a true ρ (.List es pos) (.lst ds) :=
  PE.mono (pe_lst h) fun σ H Q ⟨e, Z, oz, en, k⟩ => ⟨e, Z, oz, en, fun vs H1 s1 i1 => ⟨by rw [← i1.length]; exact Nat.le_trans hz (Nat.le_of_lt (small1000 (Nat.le_refl _))), fun p hp =>
    k (.ref p) _ (s1.trans (same_new hp)) (in_lst.mpr ⟨p, vs, rfl, .inl ⟨upd_same, s1.free hp⟩, (i1.same (same_new hp)).flat' f⟩)⟩⟩
end
/-! ### name = e, the exception being known -/
section
variable {X : Cx} {F : Fn} {ρ : Rho} {Q : EndD} {rest : List Stmt} {e : Expr} {d : D} {pos p : Pos} {i j : Nat} {x : Str} {a : Addr}
theorem rf_at {K : PySem.W.Frag} {H : Hp} {σ hv : St} {hρ : Rho} {A : Nat → List Addr} {v : V} (hi : ρ[i]? = some (some (.rf v))) (hl : σ.length = ρ.length) (S : StIn K F H (σ ++ hv) (ρ ++ hρ) A) : σ[i]? = some (some v) := by
  have il : i < ρ.length := (List.getElem?_eq_some_iff.mp hi).1
  obtain ⟨u, e1, e2⟩ := S.at' i (.rf v) (by rw [List.getElem?_append_left il]; exact hi)
  rw [List.getElem?_append_left (by omega)] at e1
  rw [e1, show u = v from e2]
theorem sd_setW (j : Nat) (he : XW X i a true (view true false ρ) e d) (hr : SD X F rest (ρ.set j (some (.pl true d))) Q) (hN : X.N.Nodup) (hi : ρ[i]? = some (some (.rf (.ref a))) := by rfl) (hj : X.N[j]? = some x := by rfl)
    (hx : Loc X.env.scope x := by first | exact Or.inl rfl | exact Or.inr rfl) (hρ : j < ρ.length := by exact of_decide_eq_true rfl) (hs : swapsWith e (some (.Name x p)) pos.line X.env = pure false := by rfl) (hf : X.fn x = true ∨ X.env.scope.names.lookup x = some .local := by first | exact .inl rfl | exact .inr rfl) :
    SD X F (.Assign [.Name x p] e pos :: rest) ρ Q :=
  sd_then (PS.mono (ps_set hN hj hx he hs hf) fun Q' σ H ⟨hv, hρ', A, hl, S, f⟩ => ⟨rf_at hi hl S, _, vz_open S true false, S.env hl true false, fun v H1 s1 i1 => f.nx _ H1 (put_pl hl S hρ s1 (In.up (zn_open S true) i1))⟩) hr
end
end Y
set_option Elab.async false
set_option linter.all false
set_option autoImplicit false
set_option maxRecDepth 100000
set_option maxHeartbeats 400000
/-! an expression that answers or raises; try: x = e, except C as n: .. -/
namespace Y
open PySem PySem.Spec PyProof.Rows L2
variable [Tabs]
abbrev OD := Except XD D
def tEX (K : PySem.W.Frag) (m : Bool) (ρ : List (Option D)) (o : OD) (σ : L2.St) (H : Hp) (Q : VK) (Ex : XK) : Prop := ∃ Z : Zone, Z.Open H ∧ EnvIn K H Z σ ρ ∧ match o with
  | .ok d => ∀ v H', Same H H' → In K H' (out m Z H) d v → Q v H'
  | .error c => c.E Ex H
/-- where an exception comes from: the names hold what they held -/
def XF (X : Cx) (pins : List (Addr × Obj)) (σ : L2.St) (Ex : XK) (e : Value) (s' : Shared) : Prop := ∃ H1 s1, Inv X pins σ H1 s1 ∧ CX1 X.prog X.w X.stack H1 s1 Ex e s'
def EX (X : Cx) (m : Bool) (ρ : List (Option D)) (e : Expr) (o : OD) : Prop := ∀ (pins : List (Addr × Obj)) (s : Shared) (σ : L2.St) (H : Hp) (Q : VK) (Ex : XK), Inv X pins σ H s → tEX X.K m ρ o σ H Q Ex → wpAny (model X.prog X.w) X.A (eval e X.env) (EP X pins σ Q) (XF X pins σ Ex) s
section
variable {X : Cx} {ρ : List (Option D)} {m m1 : Bool} {e : Expr} {es : List Expr} {ds : List D} {o : OD} {pos p : Pos} {k : Nat} {x : Str} {G : List D → D → Prop} {R : List D → XD → Prop}
def OutX (G : List D → D → Prop) (R : List D → XD → Prop) (ds : List D) : OD → Prop
  | .ok d => G ds d
  | .error c => R ds c
theorem ex_call (Df : DefX X.prog X.w X.K X.mg X.base k x m G R) (hno : ∀ e s, ¬ X.xe e s) (hr : Room k X.A) (ha : EA X ρ (e :: es) ds) (h : OutX G R ds o) (hg : Gl X x := by rfl) (hdb : (x == ("__debug__" : Str)) = false := by decide)
    (he : starEach (e :: es) X.env = (false, eval e X.env) :: starEach es X.env := by rfl) (hpl : (backTo pos (starEach es X.env)).any (·.1) = false := by rfl) : EX X m ρ (.Call (.Name x p) (e :: es) [] pos) o := by
  intro pins s σ H Q Ex I ⟨Z, oz, en, kq⟩
  obtain ⟨f, fd, ps, a, b, c, dd⟩ := Df.ex
  refine wp_callX hno a hr hg b c dd ha I ⟨Z, oz, en, fun vs H1 s1 i1 => ?_⟩ (fun H1 s1 e s' I1 hq => ⟨H1, s1, I1, hq⟩) hdb he hpl
  show spX X.K m G R (vs ++ []) H1 Q Ex
  rw [List.append_nil]
  refine ⟨Z, ds, oz.same s1, i1, ?_⟩
  cases o with
  | ok d => exact .inl ⟨d, h, fun v H' s' i => kq v H' (s1.trans s') (i.later s1)⟩
  | error c => exact .inr ⟨c, h, XD.E.same s1 kq⟩
end
section
variable {X : Cx} {F : Fn} {ρ : Rho} {Q : EndD} {rest suite : List Stmt} {b0 : Stmt} {e : Expr} {o : OD} {pos p p1 hp cp : Pos} {k j : Nat} {x n cn : Str} {C C' : Addr} {bm bm' : List Value}
theorem StIn.un {K : PySem.W.Frag} {H : Hp} {σ hv : L2.St} {r hρ : Rho} {A : Nat → List Addr} (S : StIn K F H (σ ++ hv) (r ++ hρ) A) (hl : σ.length = r.length) (hj : j < r.length) : StIn K F H (σ.set j none ++ hv) (r.set j none ++ hρ) A := by
  refine ⟨S.same, S.opn, S.nd, S.one, S.new, S.lst, fun i sl e => ?_⟩
  rw [← set_app hj] at e
  rw [← set_app (by omega)]
  by_cases q : j = i
  · subst q
    rw [List.getElem?_set] at e
    simp at e
  · rw [List.getElem?_set_ne q] at e ⊢
    exact S.at' i sl e
theorem StIn.rf {K : PySem.W.Frag} {H H1 : Hp} {σ hv : L2.St} {r hρ : Rho} {A : Nat → List Addr} {v : V} (S : StIn K F H (σ ++ hv) (r ++ hρ) A) (hl : σ.length = r.length) (hj : j < r.length) (s : Same H H1) : StIn K F H1 (σ.set j (some v) ++ hv) (r.set j (some (.rf v)) ++ hρ) (putA A j []) := by
  rw [← set_app (by omega), ← set_app hj]
  exact S.put (by rw [List.length_append]; omega) (by rw [List.length_append]; omega) s List.nodup_nil (fun a ha => by simp at ha) rfl
/-- what is known of the exception that is caught -/
structure Caught (X : Cx) (C C' : Addr) (cn n : Str) (j : Nat) : Prop where
  c : ∃ bm, ExcO X.K C bm ∧ (Value.ref C :: bm).contains (.ref C') = true
  c' : ∃ bm', ExcO X.K C' bm' ∧ bm'.contains (.type "BaseException") = true
  g : ExcG X.K C
  hm : X.mg cn = some (.ref C')
theorem sd_trySet (k j : Nat) (he : EX X true (view true false ρ) e o) (hno : ∀ e s, ¬ X.xe e s) (hok : ∀ d, o = .ok d → SD X F rest (ρ.set k (some (.pl true d))) Q)
    (herr : ∀ c, o = .error c → c.n = none ∧ Caught X c.c C' cn n j ∧ ∀ a oe, ExcP (handX X a [(a, oe)]) a c.c oe none → SD (handX X a [(a, oe)]) F (b0 :: suite) (ρ.set j (some (.rf (.ref a)))) { nx := fun r => j < r.length ∧ SD X F rest (r.set j none) Q, rt := fun _ => False })
    (hN : X.N.Nodup) (hstk : X.stack = X.env :: X.outer := by rfl) (hfr : X.env.frame = some X.env.locals := by rfl) (hk : X.N[k]? = some x := by rfl) (hj : X.N[j]? = some n := by rfl) (hkx : Loc X.env.scope x := by first | exact Or.inl rfl | exact Or.inr rfl) (hjn : X.env.kindOf n = some .local := by rfl)
    (hρ : k < ρ.length := by exact of_decide_eq_true rfl) (hρj : j < ρ.length := by exact of_decide_eq_true rfl) (hg : Gl X cn := by rfl) (hd : (cn == ("__debug__" : Str)) = false := by decide)
    (hs : swapsWith e (some (.Name x p)) p1.line X.env = pure false := by rfl) (hf : X.fn x = true ∨ X.env.scope.names.lookup x = some .local := by first | exact .inl rfl | exact .inr rfl) :
    SD X F (.Try [.Assign [.Name x p] e p1] [.ExceptHandler (some (.Name cn cp)) (some n) (b0 :: suite) hp] [] [] pos :: rest) ρ Q := by
  refine sd_seq (N := fun r => SD X F rest r Q) ?_ fun _ h => h
  intro pins s σ H D I ⟨hv, hρ', A, hl, S, f⟩
  refine wpAny_Try_except (wpAny_mono (Q := fun fl s1 => fl = .next ∧ SP X pins D .next s1) (E := XF X pins σ fun cls dct H' => Same H H' ∧ dct = none ∧ ∃ c, o = .error c ∧ cls = .ref c.c) (wpAny_execs_cons (thn (Q := fun fl s1 => fl = .next ∧ SP X pins D .next s1) (wpAny_Assign_Name (wpAny_mono (he pins s σ H (fun v H' => (∃ d, o = .ok d) ∧ D.nx (σ.set k (some v)) H') (fun cls dct H' => Same H H' ∧ dct = none ∧ ∃ c, o = .error c ∧ cls = .ref c.c) I ?_)
    (fun v s1 ⟨y, H1, I1, r1, q0, q1⟩ => store_ok I1 hN hk hkx r1 (fun s2 I2 => ⟨rfl, _, H1, I2, q1⟩) hf) fun _ _ z => z) hs) fun fl s1 ⟨e1, q⟩ => ?_)) (fun fl s1 ⟨e1, q⟩ => ?_) fun e1 s1 h1 => ?_)
  · refine ⟨_, vz_open S true false, S.env hl true false, ?_⟩
    cases o with
    | ok d => exact fun v H' s1 i1 => ⟨⟨d, rfl⟩, f.nx _ H' (by
        obtain ⟨r, A', h1, h2, h3⟩ := put_pl (fr := true) hl S hρ s1 (In.up (zn_open S true) i1)
        exact ⟨r, A', h1, h2, h3 ▸ hok d rfl⟩)⟩
    | error c =>
      obtain ⟨hn, _, _⟩ := herr c rfl
      show c.E _ H
      unfold XD.E
      rw [hn]
      exact fun H' s' => ⟨s', rfl, c, rfl, rfl⟩
  · subst e1
    exact wpAny_execs_nil ⟨rfl, q⟩
  · subst e1
    exact wpAny_execs_nil q
  · obtain ⟨H1, s2, I2, a, cls, dct, H', rfl, fly, sm, hdn, c, ho, rfl⟩ := h1
    subst hdn
    obtain ⟨hn, cg, hsuite⟩ := herr c ho
    obtain ⟨bm, c1, c2⟩ := cg.c
    obtain ⟨bm', c3, c4⟩ := cg.c'
    refine wp_catch hno I2 fly hstk hfr c1 c3 c4 c2 hg cg.hm hd hN hj hjn fun oe h1 h2 ⟨vs, h3⟩ => ?_
    refine ⟨_, hsuite a oe ⟨by simp [handX], h1, by unfold PySem.W.notCls; rw [h3], by rw [h2]; trivial, cg.g⟩, hv, hρ', _, by simp [hl], S.rf hl hρj sm, ⟨f.hl, fun σ2 H2 ⟨r, A2, hl2, S2, hjr, sd⟩ s3 I3 => ⟨_, H2, I3, f.nx _ H2 ⟨_, A2, by simp [hl2], S2.un hl2 hjr, sd⟩⟩, fun _ _ ⟨_, _, _, _, z⟩ => z.elim, fun _ _ ⟨_, _, _, _, z⟩ => z.elim, fun _ _ _ _ _ z => z.elim, fun _ _ _ _ _ _ _ _ z => z.elim⟩⟩
end
end Y
set_option Elab.async false
set_option linter.all false
set_option autoImplicit false
set_option maxRecDepth 100000
set_option maxHeartbeats 400000
/-! the refusals: six classes -/
namespace Y
open PySem PySem.Spec PyProof.Rows L2
open PySem.W (Frag findIn mroIn kitOne)
abbrev valB : List Value := [.type "ValueError", .type "Exception", .type "BaseException", .type "object"]
def excGB (K : Frag) (C : Addr) : Bool :=
  findIn K (.ref C) "__getattribute__" == some (some (.builtin "BaseException.__getattribute__")) && findIn K (.ref C) "__getattr__" == some none && mroIn K C (.type "BaseException") == some true && mroIn K C (.type "object") == some true &&
  findIn K (.ref C) "__class__" == some (some (.builtin "object.__class__")) && (PySem.W.clsIn K C).isSome && PySem.W.kitCls K (.ref C) (.ref C) == some true &&
  PySem.W.specialIn K (.builtin "object.__class__") "__get__" == some (some (.builtin "getset_descriptor.__get__")) && PySem.W.takesIn K (.builtin "object.__class__") == some true
theorem ExcG.of {K : Frag} {C : Addr} (h : excGB K C = true) : ExcG K C := by
  unfold excGB at h
  simp only [Bool.and_eq_true, beq_iff_eq] at h
  obtain ⟨⟨⟨⟨⟨⟨⟨⟨h1, h2⟩, h3⟩, h4⟩, h5⟩, h6⟩, h7⟩, h8⟩, h9⟩ := h
  exact ⟨h1, h2, h3, h4, h5, h6, h7, h8, h9⟩
/-- which class is one of which -/
def kitTab (b q n t x d : Addr) : List (Addr × Addr × Bool) := [(q, b, true), (q, q, true), (q, n, false), (q, t, false), (q, x, false), (q, d, false), (n, b, true), (n, q, false), (n, n, true), (n, t, false), (n, x, false), (n, d, false),
  (t, b, true), (t, q, false), (t, n, false), (t, t, true), (t, x, false), (t, d, false), (x, b, true), (x, q, false), (x, n, false), (x, t, false), (x, x, true), (x, d, false), (d, b, true), (d, q, false), (d, n, false), (d, t, false), (d, x, false), (d, d, true)]
structure Errs (K : Frag) (mg : Str → Option Value) (b q n t x d : Addr) : Prop where
  gb : mg "BesideError" = some (.ref b)
  gq : mg "NoQuestion" = some (.ref q)
  gn : mg "NoWay" = some (.ref n)
  gt : mg "Twice" = some (.ref t)
  gx : mg "NoText" = some (.ref x)
  gd : mg "NoDeed" = some (.ref d)
  ob : ExcO K b valB
  oq : ExcO K q (.ref b :: valB)
  kn : ExcK K n (.ref b :: valB) valB "ValueError.__new__"
  kt : ExcK K t (.ref b :: valB) valB "ValueError.__new__"
  kx : ExcK K x (.ref b :: valB) valB "ValueError.__new__"
  kd : ExcK K d (.ref b :: valB) valB "ValueError.__new__"
  g : ∀ c ∈ [q, n, t, x, d], ExcG K c
  is : ∀ p ∈ kitTab b q n t x d, kitOne K (.ref p.1) (.ref p.2.1) = some p.2.2
  isV : ∀ c ∈ [q, n, t, x, d], kitOne K (.ref c) (.type "ValueError") = some true
theorem ExcK.o {K : Frag} {C : Addr} {bm bmB : List Value} {nid : String} (h : ExcK K C bm bmB nid) : ExcO K C bm := by
  obtain ⟨nm, q, N, bs, hdct, sn, sub, ab, col, dd, k0, k1, k2, k3, k5, e, _⟩ := h.obj
  exact ⟨nm, q, N, bs, hdct, sn, sub, ab, col, dd, k0, k1, k2, k3, k5, nid, e⟩
theorem exc_mk {K : Frag} {C N : Addr} {bm bmB bs sub : List Value} {nid : String} {nm q : Str} {hdct ab : Bool} {sn : List Str} {col : Option Bool} {dd : Option Addr} {k0 k1 k2 k3 k5 : Option Value}
    (h : K.lookup C = some (excClassObj nm q C N bs bm hdct sn sub ab col dd k0 k1 k2 k3 k5 nid)) (h1 : PySem.W.nsOkIn K N = true) (h2 : PySem.W.nsIn K N "__init__" = some none) (h3 : PySem.W.tailIn K bmB bm = true) : ExcK K C bm bmB nid :=
  ⟨⟨nm, q, N, bs, hdct, sn, sub, ab, col, dd, k0, k1, k2, k3, k5, h, h1, h2⟩, h3⟩
theorem exo_mk {K : Frag} {C N : Addr} {bm bs sub : List Value} {nid : String} {nm q : Str} {hdct ab : Bool} {sn : List Str} {col : Option Bool} {dd : Option Addr} {k0 k1 k2 k3 k5 : Option Value}
    (h : K.lookup C = some (excClassObj nm q C N bs bm hdct sn sub ab col dd k0 k1 k2 k3 k5 nid)) : ExcO K C bm :=
  ⟨nm, q, N, bs, hdct, sn, sub, ab, col, dd, k0, k1, k2, k3, k5, nid, h⟩
theorem errs_mk {K : Frag} {mg : Str → Option Value} {b q n t x d : Addr} (gb : mg "BesideError" = some (.ref b)) (gq : mg "NoQuestion" = some (.ref q)) (gn : mg "NoWay" = some (.ref n)) (gt : mg "Twice" = some (.ref t)) (gx : mg "NoText" = some (.ref x)) (gd : mg "NoDeed" = some (.ref d))
    (ob : ExcO K b valB) (oq : ExcO K q (.ref b :: valB)) (kn : ExcK K n (.ref b :: valB) valB "ValueError.__new__") (kt : ExcK K t (.ref b :: valB) valB "ValueError.__new__") (kx : ExcK K x (.ref b :: valB) valB "ValueError.__new__") (kd : ExcK K d (.ref b :: valB) valB "ValueError.__new__")
    (h1 : [q, n, t, x, d].all (excGB K) = true) (h2 : ((kitTab b q n t x d).all fun p => kitOne K (.ref p.1) (.ref p.2.1) == some p.2.2) = true) (h3 : ([q, n, t, x, d].all fun c => kitOne K (.ref c) (.type "ValueError") == some true) = true) : Errs K mg b q n t x d :=
  ⟨gb, gq, gn, gt, gx, gd, ob, oq, kn, kt, kx, kd, fun c hc => .of (List.all_eq_true.mp h1 c hc), fun p hp => beq_iff_eq.mp (List.all_eq_true.mp h2 p hp), fun c hc => beq_iff_eq.mp (List.all_eq_true.mp h3 c hc)⟩
end Y
set_option Elab.async false
set_option linter.all false
set_option autoImplicit false
set_option maxRecDepth 100000
set_option maxHeartbeats 400000
/-! DICTS by data: keys are ints, texts, or tuples of these; values are ints, bools, texts -/
namespace Y
open PySem PySem.Spec PyProof.Rows L2
variable [Tabs]
theorem roomDs {k : Nat} {A : Around} {ds : List D} (r : Room k A) (h : deps ds ≤ 100) : A.units + 1 + deps ds < cLine := by have := r.un; omega
theorem room1 {k : Nat} {A : Around} (r : Room k A) : A.units + 1 < cLine := by have := r.un; omega
/-- a value without an address -/
def scV : D → Option V
  | .int i => some (.int i)
  | .bl b => some (.bl b)
  | .str x => some (.str x)
  | .non => some .non
  | _ => none
section
variable {K : PySem.W.Frag} {H : Hp} {Z Z' : Zone}
theorem in_kD {k : Key} {v : V} (h : In K H Z (kD k) v) : v = kV k := by
  cases k with
  | inl i => exact in_int.mp h
  | inr x => exact in_str.mp h
theorem ins_kD : ∀ {ks : List Key} {vs : List V}, Ins K H Z (ks.map kD) vs → vs = ks.map kV
  | [], _, h => ins_nil.mp h
  | k :: ks, _, h => by
    obtain ⟨v, r, rfl, a, j⟩ := ins_cons.mp h
    rw [in_kD a, ins_kD j]; rfl
theorem in_sc {d : D} {v w : V} (h : In K H Z d v) (e : scV d = some w) : v = w := by
  cases d with
  | non => cases e; exact in_non.mp h
  | bl b => cases e; exact in_bl.mp h
  | int b => cases e; exact in_int.mp h
  | str b => cases e; exact in_str.mp h
  | lst b => cases e
  | tup b => cases e
  | dct b => cases e
  | ktup b => cases e
/-- what a dict has at a key -/
def DO.at (o : DO) (d : D) (r : Option V) : Prop := match o with
  | .k kvs => ∃ k, d = kD k ∧ r = valV kvs k
  | .t kvs => ∃ ks, d = .tup (ks.map kD) ∧ r = valV kvs ks
def DO.put (o : DO) (d : D) (v : V) (o' : DO) : Prop := match o with
  | .k kvs => ∃ k, d = kD k ∧ kvs.length < sizeLine ∧ o' = .k (putK kvs k v)
  | .t kvs => ∃ ks, d = .tup (ks.map kD) ∧ kvs.length < sizeLine ∧ o' = .t (putK kvs ks v)
theorem DO.at_k {kvs : List (Key × V)} {k : Key} {d : D} {r : Option V} (h : d = kD k) (hr : r = valV kvs k) : (DO.k kvs).at d r := ⟨k, h, hr⟩
theorem DO.at_t {kvs : List (List Key × V)} {k : List Key} {d : D} {r : Option V} (h : d = .tup (k.map kD)) (hr : r = valV kvs k) : (DO.t kvs).at d r := ⟨k, h, hr⟩
theorem DO.put_k {kvs : List (Key × V)} {k : Key} {d : D} {v : V} {o' : DO} (h : d = kD k) (hl : kvs.length < sizeLine) (e : o' = .k (putK kvs k v)) : (DO.k kvs).put d v o' := ⟨k, h, hl, e⟩
theorem DO.put_t {kvs : List (List Key × V)} {k : List Key} {d : D} {v : V} {o' : DO} (h : d = .tup (k.map kD)) (hl : kvs.length < sizeLine) (e : o' = .t (putK kvs k v)) : (DO.t kvs).put d v o' := ⟨k, h, hl, e⟩
theorem dget {o : DO} {d : D} {r : Option V} {x y : V} (hx : In K H Z (.dct o) x) (hy : In K H Z' d y) (h : o.at d r) : ∃ a, x = .ref a ∧ DGet H a y r := by
  obtain ⟨a, rfl, e, _⟩ := in_dct.mp hx
  refine ⟨a, rfl, ?_⟩
  cases o with
  | k kvs =>
    obtain ⟨k, rfl, rfl⟩ := h
    rw [in_kD hy]
    exact .k e
  | t kvs =>
    obtain ⟨ks, rfl, rfl⟩ := h
    obtain ⟨b, xs, rfl, eb, j⟩ := in_tup.mp hy
    rw [ins_kD j] at eb
    exact .t e eb
theorem dput {o o' : DO} {d : D} {v y : V} {a : Addr} (e : H a = some o.ho) (hy : In K H Z' d y) (h : o.put d v o') : DPut H a y v (upd H a o'.ho) := by
  cases o with
  | k kvs =>
    obtain ⟨k, rfl, hl, rfl⟩ := h
    rw [in_kD hy]
    exact .k e hl
  | t kvs =>
    obtain ⟨ks, rfl, hl, rfl⟩ := h
    obtain ⟨b, xs, rfl, eb, j⟩ := in_tup.mp hy
    rw [ins_kD j] at eb
    exact .t e eb hl
end
section
variable {X : Cx} {ρ : List (Option D)} {m m1 m2 m3 : Bool} {a b c o e f : Expr} {d dk : D} {pos ap cp : Pos} {D0 : DO} {r : Option V}
theorem e_dnewK : E X true ρ (.Dict [] [] pos) (.dct (.k [])) := PE.mono pe_dnewK fun σ H Q ⟨Z, oz, en, k⟩ => fun p hp => k (.ref p) _ (same_new hp) (in_dct.mpr ⟨p, rfl, upd_same, hp⟩)
theorem e_dnewT : E X true ρ (.Dict [] [] pos) (.dct (.t [])) := PE.mono pe_dnewT fun σ H Q ⟨Z, oz, en, k⟩ => fun p hp => k (.ref p) _ (same_new hp) (in_dct.mpr ⟨p, rfl, upd_same, hp⟩)
theorem t_din (ha : E X m1 ρ a dk) (hb : E X m2 ρ b (.dct D0)) (hk : D0.at dk r) (hu : X.A.units + 1 < cLine) (hm : behindInMarks .In b = false := by rfl) : T X ρ (.Compare a [.In] [b] pos) r.isSome :=
  PT.mono (pt_cmp (pc_din hu ha hb) hm) fun σ H Q ⟨Z, oz, en, k⟩ => ⟨Z, oz, en, fun y H1 s1 i1 => ⟨Z, oz.same s1, en.same s1, fun x H2 s2 i2 => by
    obtain ⟨a, rfl, g⟩ := dget (i2.plain (oz.same s1)) ((i1.plain oz).same s2) hk
    exact ⟨a, r, rfl, g, r.isSome, rfl, k H2 (s1.trans s2)⟩⟩⟩
theorem t_dnotin (ha : E X m1 ρ a dk) (hb : E X m2 ρ b (.dct D0)) (hk : D0.at dk r) (hu : X.A.units + 1 < cLine) (hm : behindInMarks .NotIn b = false := by rfl) : T X ρ (.Compare a [.NotIn] [b] pos) (!r.isSome) :=
  PT.mono (pt_cmp (pc_dnotin hu ha hb) hm) fun σ H Q ⟨Z, oz, en, k⟩ => ⟨Z, oz, en, fun y H1 s1 i1 => ⟨Z, oz.same s1, en.same s1, fun x H2 s2 i2 => by
    obtain ⟨a, rfl, g⟩ := dget (i2.plain (oz.same s1)) ((i1.plain oz).same s2) hk
    exact ⟨a, r, rfl, g, !r.isSome, rfl, k H2 (s1.trans s2)⟩⟩⟩
end
section
variable {X : Cx} {F : Fn} {ρ : Rho} {Q : EndD} {rest : List Stmt} {e key : Expr} {pos p sp : Pos} {m1 m2 : Bool}
theorem sd_ownD (i : Nat) {x : Str} {o : DO} (he : E X true (view true false ρ) e (.dct o)) (hr : SD X F rest (ρ.set i (some (.od o))) Q) (hN : X.N.Nodup) (hi : X.N[i]? = some x := by rfl)
    (hx : Loc X.env.scope x := by first | exact Or.inl rfl | exact Or.inr rfl) (hρ : i < ρ.length := by exact of_decide_eq_true rfl) (hs : swapsWith e (some (.Name x p)) pos.line X.env = pure false := by rfl) (hf : X.fn x = true ∨ X.env.scope.names.lookup x = some .local := by first | exact .inl rfl | exact .inr rfl) :
    SD X F (.Assign [.Name x p] e pos :: rest) ρ Q :=
  sd_then (PS.mono (ps_set hN hi hx he hs hf) fun Q' σ H ⟨hv, hρ', A, hl, S, f⟩ => ⟨_, vz_open S true false, S.env hl true false, fun v H1 s1 i1 => by
    obtain ⟨l, rfl, e1, e2⟩ := in_dct.mp i1
    refine f.nx _ H1 ⟨_, putA A i [l], by simp [hl], ?_, rfl⟩
    rw [← set_app (by omega), ← set_app hρ]
    exact S.put (by rw [List.length_append]; omega) (by rw [List.length_append]; omega) s1 nodup1 (fun a ha => by
      have : a = l := by simpa using ha
      subst this
      exact ⟨e2, .d o, e1⟩) ⟨l, rfl, rfl, e1⟩⟩) hr
theorem StIn.od {K : PySem.W.Frag} {H : Hp} {σ hv : St} {hρ : Rho} {A : Nat → List Addr} {i : Nat} {o : DO} (S : StIn K F H (σ ++ hv) (ρ ++ hρ) A) (hl : σ.length = ρ.length) (h : ρ[i]? = some (some (.od o))) :
    ∃ l, σ[i]? = some (some (.ref l)) ∧ A i = [l] ∧ H l = some o.ho := by
  have hi : i < ρ.length := (List.getElem?_eq_some_iff.mp h).1
  obtain ⟨v, a, l, e1, rfl, e2⟩ := S.at' i _ (by rw [List.getElem?_append_left hi]; exact h)
  rw [List.getElem?_append_left (by omega)] at a
  exact ⟨l, a, e1, e2⟩
theorem put_od {K : PySem.W.Frag} {hv : St} {hρ : Rho} {σ : St} {H : Hp} {A : Nat → List Addr} {i : Nat} {l : Addr} {o o' : DO} (hl : σ.length = ρ.length) (S : StIn K F H (σ ++ hv) (ρ ++ hρ) A) (h : σ[i]? = some (some (.ref l))) (hA : A i = [l]) (hx : H l = some o.ho) :
    StOk K F hv hρ (fun r => r = ρ.set i (some (.od o'))) σ (upd H l o'.ho) := by
  have hi : i < σ.length := (List.getElem?_eq_some_iff.mp h).1
  refine ⟨_, putA A i [l], by simp [hl], ?_, rfl⟩
  have key := S.re (i := i) (v := .ref l) (sl := .od o') (l := [l]) (H2 := upd H l o'.ho) (by rw [List.length_append]; omega) (by rw [List.length_append]; omega) (S.same.writeM (xs := .d o) (S.new i l (by rw [hA]; simp)) hx) (fun b u e _ hb => ?_) nodup1 (fun a ha => ?_) ⟨l, rfl, rfl, upd_same⟩
  · rw [set_self (by rw [List.getElem?_append_left hi]; exact h), set_app (by omega)] at key
    exact key
  · rw [hA] at hb
    have : b ≠ l := by simpa using hb
    rw [upd_ne this]; exact e
  · have : a = l := by simpa using ha
    subst this
    exact ⟨.inl (by rw [hA]; simp), .d o', upd_same⟩
/-- d[key] = e -/
theorem sd_dput (i : Nat) {x : Str} {o o' : DO} {dk dv : D} {v : V} (h : ρ[i]? = some (some (.od o)) := by rfl) (hk : E X m1 (view true false ρ) key dk) (he : E X m2 (view true false ρ) e dv) (hv : scV dv = some v) (hp : o.put dk v o') (hu : X.A.units + 1 < cLine)
    (hr : SD X F rest (ρ.set i (some (.od o'))) Q) (hN : X.N[i]? = some x := by rfl) (hvis : Vis X.env.scope x := by first | exact Or.inl rfl | exact Or.inr (Or.inl rfl) | exact Or.inr (Or.inr rfl)) (hd : (x == ("__debug__" : Str)) = false := by decide) (hcd : (x == ("__classdict__" : Str)) = false := by decide)
    (hs : swapsWith e (some (.Subscript (.Name x p) key sp)) pos.line X.env = pure false := by rfl) : SD X F (.Assign [.Subscript (.Name x p) key sp] e pos :: rest) ρ Q := by
  refine sd_then (PS.mono (ps_dput hu (pe_var hN hvis hd hcd) hk he hs) fun Q' σ H ⟨hv', hρ, A, hl, S, f⟩ => ?_) hr
  obtain ⟨l, e1, e2, e3⟩ := S.od hl h
  refine ⟨_, vz_open S true false, S.env hl true false, fun w H1 s1 i1 => ?_⟩
  refine ⟨.ref l, e1, _, (vz_open S true false).same s1, (S.env hl true false).same s1, fun y H2 s2 i2 => ?_⟩
  have s12 := s1.trans s2
  have hw := in_sc i1 hv
  subst hw
  exact ⟨l, _, rfl, dput (s12.at e3 o.nt) i2 hp, f.nx _ _ (put_od hl (S.grow s12) e1 e2 (s12.at e3 o.nt))⟩
end
end Y
set_option Elab.async false
set_option linter.all false
set_option autoImplicit false
set_option maxHeartbeats 4000000
/-! texts as lists of codes: split, split(), join, lower, upper -/
namespace Y
open PySem PyProof.Rows Builtin Builtin.Str StrLaws
abbrev cl (z : Str) : List Nat := z.cps.toList
def mkS (l : List Nat) : Str := ⟨l.toArray⟩
theorem mkS_cl (z : Str) : mkS (cl z) = z := by simp [cl, mkS]
theorem cl_inj {a b : Str} (h : cl a = cl b) : a = b := by rw [← mkS_cl a, ← mkS_cl b, h]
theorem cl_len (z : Str) : (cl z).length = z.length := by simp [cl, Str.length]
theorem cl_eq_nil {z : Str} : cl z = [] ↔ z = "" := ⟨fun h => cl_inj (by rw [h]; rfl), fun h => by subst h; rfl⟩
/-! ### cut at a sign -/
/-! ### words: what blanks part -/
end Y
set_option Elab.async false
set_option linter.all false
set_option autoImplicit false
set_option maxHeartbeats 4000000
/-! rows of a text, by its codes -/
namespace Y
open PySem PyProof.Rows Builtin Builtin.Str StrLaws
def W36 : Str := "abcdefghijklmnopqrstuvwxyz0123456789"
def sgB (c : Nat) : Bool := decide (c ∈ cl W36)
theorem W36_low : ∀ c ∈ cl W36, lo1 c = c ∧ Unicode.isSpace c = false ∧ c < 128 ∧ c ≠ 10 ∧ c ≠ 32 := by decide +kernel
theorem sg_mem {c : Nat} (h : sgB c = true) : c ∈ cl W36 := by simpa [sgB] using h
theorem sg_low {c : Nat} (h : sgB c = true) : lo1 c = c := (W36_low c (sg_mem h)).1
def wopt (cur : List Nat) : List (List Nat) := if cur = [] then [] else [cur]
def ropt (row : List (List Nat)) : List (List (List Nat)) := if row = [] then [] else [row]
/-- sign by sign: the line's words so far, the word so far -/
def scan : List Nat → List (List Nat) → List Nat → List (List (List Nat))
  | [], row, cur => ropt (row ++ wopt cur)
  | c :: cs, row, cur => if c = 10 then ropt (row ++ wopt cur) ++ scan cs [] [] else if sgB (lo1 c) then scan cs row (cur ++ [lo1 c]) else scan cs (row ++ wopt cur) []
/-! ### the program's own reading -/
end Y
set_option Elab.async false
set_option linter.all false
set_option autoImplicit false
set_option maxHeartbeats 4000000
/-! rows shown and read again -/
namespace Y
open PySem PyProof.Rows Builtin Builtin.Str StrLaws
/-- a word that stands there: signs, of either size -/
structure IsW (w : List Nat) : Prop where
  ne : w ≠ []
  sg : ∀ c ∈ w, sgB (lo1 c) = true
  nl : ∀ c ∈ w, c ≠ 10
/-! replace of a sign -/
/-! ### rows of words, as texts -/
/-- a plain word: one or more of the thirty-six signs -/
def isW (z : Str) : Prop := z ≠ "" ∧ ∀ c ∈ cl z, sgB c = true
theorem isW.w {z : Str} (h : isW z) : IsW (cl z) := ⟨fun e => h.1 (cl_eq_nil.mp e), fun c hc => by rw [sg_low (h.2 c hc)]; exact h.2 c hc, fun c hc => (W36_low c (sg_mem (h.2 c hc))).2.2.2.1⟩
theorem up_low : ∀ c ∈ cl W36, lo1 (up1 c) = c ∧ up1 c ≠ 10 ∧ up1 c < 128 := by decide +kernel
theorem isW.up {z : Str} (h : isW z) : IsW ((cl z).map up1) ∧ ((cl z).map up1).map lo1 = cl z := by
  refine ⟨⟨fun e => h.1 (cl_eq_nil.mp (by simpa using e)), fun c hc => ?_, fun c hc => ?_⟩, ?_⟩
  · obtain ⟨k, hk, rfl⟩ := List.mem_map.mp hc
    rw [(up_low k (sg_mem (h.2 k hk))).1]; exact h.2 k hk
  · obtain ⟨k, hk, rfl⟩ := List.mem_map.mp hc
    exact (up_low k (sg_mem (h.2 k hk))).2.1
  · rw [List.map_map]
    conv => rhs; rw [← List.map_id (cl z)]
    exact List.map_congr_left fun c hc => (up_low c (sg_mem (h.2 c hc))).1
/-- with other signs between -/
def spoiled (z : Str) : Str := "\n ," ++ Txt.replace (Txt.replace z " " " -, ") "\n" ".\n\n!" ++ "?\n"
end Y
set_option Elab.async false
set_option linter.all false
set_option autoImplicit false
set_option maxHeartbeats 4000000
/-! marked texts -/
namespace Y
open PySem PyProof.Rows Builtin Builtin.Str StrLaws
/-! the right end stripped -/
/-! ### good rows come out of scan -/
/-! ### marked -/
/-! ### how much scan yields -/
end Y
set_option Elab.async false
set_option linter.all false
set_option autoImplicit false
set_option maxRecDepth 100000
set_option maxHeartbeats 4000000
/-! the laws' own inputs and plain mirrors of the program: no program text here -/
namespace Y
open PySem PySem.Spec PyProof.Rows L2
variable [Tabs]
/-! common: cells, parts -/
def cellAt (ns : List Int) (k : Nat) : Int := ns.getD k 0
def gCellAt (ds : List D) (d : D) : Prop := ∃ (ns : List Int) (k : Nat), ns.length ≤ 1000 ∧ ds = [.lst (ns.map D.int), .int k] ∧ d = .int (cellAt ns k)
def part (c k m : Int) : Int := (c % 99991 + 17) * (48271 + 7919 * k) % 65537 * (k + 3) % 8191 % m
theorem part_nn (c k : Int) {m : Int} (h : 0 < m) : 0 ≤ part c k m := Int.emod_nonneg _ (by omega)
theorem part_lt (c k : Int) {m : Int} (h : 0 < m) : part c k m < m := Int.emod_lt_of_pos _ h
def gPart (ds : List D) (d : D) : Prop := ∃ c k m : Int, 0 < m ∧ ds = [.int c, .int k, .int m] ∧ d = .int (part c k m)
def sgnAt (n : Int) : Nat := W36.cps.toList.getD (n % 36).toNat 0
theorem atI_sgn (n : Int) : atI W36.cps.toList (n % 36) = some (sgnAt n) := by
  have h0 := Int.emod_nonneg n (show (36 : Int) ≠ 0 by decide)
  have h1 := Int.emod_lt_of_pos n (show (0 : Int) < 36 by decide)
  have hl : W36.cps.toList.length = 36 := by decide +kernel
  obtain ⟨k, hk⟩ := Int.eq_ofNat_of_zero_le h0
  unfold sgnAt
  rw [hk]
  refine atI_nat ?_
  have : k < W36.cps.toList.length := by omega
  simp at this
  simp [this]
/-! four drawn words of up to twelve signs -/
def sizeA (one : Int) : Int := 1 + part one 0 12
def atA (one other : Int) : Int := part other 1 (sizeA one)
def numA (one other k : Int) (j : Int) : Int := if j = atA one other ∧ part other 20 2 = 0 then part one (j + 2) 36 + k else part one (j + 2) 36
def wordA (one other k : Int) (n : Nat) : Str := ⟨((List.range n).map fun j => sgnAt (numA one other k (0 + (j : Nat)))).toArray⟩
def takeA (one other k : Int) : Str := Txt.slice (wordA one other k 12) none (some (if part other 20 2 = 0 then sizeA one else 1 + (sizeA one + k) % 12))
def wordsA (one other : Int) : List Str := (List.range 4).map fun k => takeA one other (0 + (k : Nat))
theorem wordA_len (one other k : Int) (n : Nat) : (wordA one other k n).length = n := by show Array.size _ = n; simp [wordA]
theorem wordA_succ (one other k : Int) (n : Nat) : wordA one other k (n + 1) = wordA one other k n ++ ⟨#[sgnAt (numA one other k (0 + (n : Nat)))]⟩ := by
  apply Str.ext'
  rw [Str.cps_append]
  unfold wordA
  rw [List.range_succ, List.map_append]
  simp
theorem wordsA_len (one other : Int) : (wordsA one other).length = 4 := by simp [wordsA]
def strsD (ws : List Str) : D := .lst (ws.map D.str)
def intsD (ns : List Int) : D := .lst (ns.map D.int)
def rowsD (rows : List (List Str)) : D := .lst (rows.map strsD)
def gWordsA (ds : List D) (d : D) : Prop := ∃ one other : Int, ds = [.int one, .int other] ∧ d = strsD (wordsA one other)
/-! rows of them -/
theorem strs_get {ws : List Str} {n : Nat} (h : n < ws.length) : (ws.map D.str)[n]? = some (.str (ws.getD n "")) := by simp [h]
/-! places, ends -/
def plD (p : Nat × Nat) : D := .tup [.int p.1, .int p.2]
def plsD (ps : List (Nat × Nat)) : D := .lst (ps.map plD)
def tot (rows : List (List Str)) : Nat := (rows.map List.length).sum
def allPn (rows : List (List Str)) (n : Nat) : List (Nat × Nat) := (List.range n).flatMap fun r => (List.range (rows.getD r []).length).map fun a => (r, a)
theorem allPn_succ (rows : List (List Str)) (n : Nat) : allPn rows (n + 1) = allPn rows n ++ (List.range (rows.getD n []).length).map fun a => (n, a) := by
  unfold allPn
  rw [List.range_succ, List.flatMap_append]
  simp
theorem allPn_len (rows : List (List Str)) : ∀ n, n ≤ rows.length → (allPn rows n).length = ((rows.take n).map List.length).sum
  | 0, _ => by simp [allPn]
  | n + 1, h => by
    have hn : n < rows.length := by omega
    have e : rows.take (n + 1) = rows.take n ++ [rows.getD n []] := by
      rw [List.take_add_one]; simp [hn]
    rw [allPn_succ, List.length_append, allPn_len rows n (by omega), List.length_map, List.length_range, e, List.map_append, List.sum_append]
    simp
theorem sum_take_le : ∀ (l : List (List Str)) (n : Nat), ((l.take n).map List.length).sum ≤ (l.map List.length).sum
  | [], n => by simp
  | a :: l, 0 => by simp
  | a :: l, n + 1 => by
    have := sum_take_le l n
    simp at this ⊢
    omega
theorem tot_take (rows : List (List Str)) (n : Nat) (h : n ≤ rows.length) : (allPn rows n).length ≤ tot rows := by
  rw [allPn_len rows n h]; exact sum_take_le rows n
theorem tot_row {rows : List (List Str)} {n : Nat} {row : List Str} (h : rows[n]? = some row) (m : Nat) (hm : m ≤ row.length) : (allPn rows n).length + m ≤ tot rows := by
  have hn : n < rows.length := (List.getElem?_eq_some_iff.mp h).1
  have h1 := tot_take rows (n + 1) (by omega)
  rw [allPn_succ, List.length_append] at h1
  simp [h] at h1
  omega
/-! shapes: told apart by ==, flat, shallow -/
theorem rangeD0_get {n i : Nat} {d : D} (h : (rangeD 0 n)[i]? = some d) : i < n ∧ d = .int (i : Nat) := by
  obtain ⟨h1, h2⟩ := rangeD_get h
  exact ⟨h1, by rw [h2, Int.zero_add]⟩
theorem flat_range {lo : Int} {n : Nat} : ∀ d ∈ rangeD lo n, d.flat = true := fun d hd => by obtain ⟨i, _, rfl⟩ := List.mem_map.mp hd; rfl
theorem flat_ints {ns : List Int} : ∀ d ∈ ns.map D.int, d.flat = true := fun d hd => by obtain ⟨i, _, rfl⟩ := List.mem_map.mp hd; rfl
theorem told_plD : Told plD := fun p q => by
  obtain ⟨a, b⟩ := p
  obtain ⟨c, d⟩ := q
  simp only [plD, deq, deqs, Bool.and_true]
  by_cases h1 : a = c
  · by_cases h2 : b = d
    · simp [h1, h2]
    · simp [h1, h2]; omega
  · simp [h1]; omega
theorem told_pls : Told plsD := told_list told_plD
theorem deps_le {n : Nat} : ∀ {ds : List D}, (∀ d ∈ ds, d.dep ≤ n) → deps ds ≤ n
  | [], _ => by simp [deps]
  | d :: ds, h => by
    have h1 := h d List.mem_cons_self
    have h2 : deps ds ≤ n := deps_le fun e he => h e (List.mem_cons_of_mem _ he)
    simp [deps]; omega
theorem dep_lst {n : Nat} {ds : List D} (h : ∀ d ∈ ds, d.dep ≤ n) : (D.lst ds).dep ≤ n + 1 := by
  have := deps_le h
  simp [D.dep]; omega
theorem dep_strs (ws : List Str) : (strsD ws).dep ≤ 1 := dep_lst fun d hd => by obtain ⟨i, _, rfl⟩ := List.mem_map.mp hd; simp [D.dep]
theorem dep_rows (ws : List (List Str)) : (rowsD ws).dep ≤ 2 := dep_lst fun d hd => by obtain ⟨i, _, rfl⟩ := List.mem_map.mp hd; exact dep_strs i
theorem dep_plD (p : Nat × Nat) : (plD p).dep ≤ 1 := by simp [plD, D.dep, deps]
theorem dep_pls (ps : List (Nat × Nat)) : (plsD ps).dep ≤ 2 := dep_lst fun d hd => by obtain ⟨i, _, rfl⟩ := List.mem_map.mp hd; exact dep_plD i
theorem roomD {k n : Nat} {A : Around} {d : D} (r : Room k A) (h : d.dep ≤ n) (hn : n ≤ 200 := by decide) : A.units + d.dep < cLine := by have := r.un; omega
theorem tot_append (a b : List (List Str)) : tot (a ++ b) = tot a + tot b := by simp [tot]
theorem row_le_tot {rows : List (List Str)} {r : List Str} (h : r ∈ rows) : r.length ≤ tot rows := by
  obtain ⟨n, hn⟩ := List.getElem?_of_mem h
  have := tot_row hn r.length (Nat.le_refl _)
  omega
/-! a stretch of the law's -/
/-! the program's words -/
theorem T.castB {X : Cx} {ρ : List (Option D)} {e : Expr} {b b' : Bool} (h : T X ρ e b) (q : b = b') : T X ρ e b' := q ▸ h
/-! signs of a menu -/
end Y
set_option Elab.async false
set_option linter.all false
set_option autoImplicit false
set_option maxRecDepth 100000
set_option maxHeartbeats 4000000
/-! replace: the tokens of its two texts are counted -/
namespace Y
open PySem PySem.Spec PyProof.Rows L2
variable [Tabs]
section
variable {X : Cx}
variable {ρ : List (Option D)} {o e : Expr} {pos ap cp p1 p2 : Pos}
end
end Y
set_option Elab.async false
set_option linter.all false
set_option autoImplicit false
set_option maxRecDepth 100000
set_option maxHeartbeats 4000000
/-! for k03, k05 -/
namespace Y
open PySem PySem.Spec PyProof.Rows L2
variable [Tabs]
section
variable {X : Cx} {ρ : List (Option D)} {m1 m2 : Bool} {o a : Expr} {ap cp : Pos}
end
/-! ### the drawn words are words -/
/-! ### shown rows, their size -/
/-- what stands ahead of the next one -/
def ahead (sep : Str) (ps : List Str) : Str := if ps = [] then "" else Txt.join sep ps ++ sep
/-! the weight of drawn rows -/
/-! for k05 -/
end Y
set_option Elab.async false
set_option linter.all false
set_option autoImplicit false
set_option maxRecDepth 100000
set_option maxHeartbeats 4000000
/-! the inputs of the laws about ends; shares -/
namespace Y
open PySem PySem.Spec PyProof.Rows L2
variable [Tabs]
/-- range(len(..)): a list's length is small -/
theorem it_rangeL {X : Cx} {ρ : List (Option D)} {m1 : Bool} {tg a : Expr} {p pos : Pos} {n : Nat} (h : E X m1 ρ a (.int (n : Nat))) (hm : X.mg "range" = none) (hn : n < 2 ^ 62 := by first | omega | (simp only [List.length_map]; omega)) (hg : Gl X "range" := by rfl) (hs : starEach [a] X.env = [(false, eval a X.env)] := by rfl) :
    IT X tg true ρ (.Call (.Name "range" p) [a] [] pos) (rangeD 0 n) := it_range (n := ((n : Nat) : Int)) h (by omega) (by omega) hm hg hs
/-! five drawn words of up to fourteen signs -/
/-! rows of them -/
/-! what two lists have in common -/
/-! shares -/
theorem pls_get {ps : List (Nat × Nat)} {n : Nat} (h : n < ps.length) : (ps.map plD)[n]? = some (plD (ps.getD n (0, 0))) := by simp [h]
theorem getD_mem {α : Type} {l : List α} {n : Nat} {d : α} (h : n < l.length) : l.getD n d ∈ l := by
  rw [List.getD_eq_getElem?_getD, List.getElem?_eq_getElem h]
  exact List.getElem_mem h

end Y
set_option Elab.async false
set_option linter.all false
set_option autoImplicit false
set_option maxRecDepth 100000
set_option maxHeartbeats 400000
/-! BITS, BEGINNINGS AND ENDS OF TEXTS, EXTEND, COMPREHENSIONS OVER PAIRS, A LOOP OVER AN OWN LIST -/
namespace Y
/-! bits of a whole number -/
def bl (x : Nat) : Nat := if x = 0 then 0 else x.log2 + 1
end Y
namespace Y
open PySem PySem.Spec PyProof.Rows L2
variable [Tabs]
section
variable {X : Cx}
end
section
variable {X : Cx} {ρ : List (Option D)} {m m1 m2 m3 : Bool} {a b c o : Expr} {pos ap cp : Pos}
end

/-! ### a comprehension over pairs -/
section
variable {X : Cx} {ρ : List (Option D)} {m m1 : Bool} {ds : List D} {pos : Pos}
end

/-! ### xs.extend(new list); for over an own list -/
section
variable {X : Cx} {F : Fn} {ρ : Rho} {Q : EndD} {rest body : List Stmt} {e : Expr} {pos p : Pos}
/-- an own slot's address -/
theorem StIn.owl {K : PySem.W.Frag} {H : Hp} {σ hv : St} {hρ : Rho} {A : Nat → List Addr} {i : Nat} {l : Addr} {fr : Bool} {ds : List D} (S : StIn K F H (σ ++ hv) (ρ ++ hρ) A) (hl : σ.length = ρ.length) (h : ρ[i]? = some (some (.owl l fr ds))) :
    ∃ xs, σ[i]? = some (some (.ref l)) ∧ A i = [l] ∧ H l = some (.lst xs) ∧ Ins K H (zn F (Owned A) fr) ds xs := by
  have hi : i < ρ.length := (List.getElem?_eq_some_iff.mp h).1
  obtain ⟨v, a, xs, e1, rfl, e2, j⟩ := S.at' i _ (by rw [List.getElem?_append_left hi]; exact h)
  rw [List.getElem?_append_left (by omega)] at a
  exact ⟨xs, a, e1, e2, j⟩
end
end Y
set_option Elab.async false
set_option linter.all false
set_option autoImplicit false
set_option maxRecDepth 100000
set_option maxHeartbeats 400000
/-! QUESTIONS AND WHAT THEY MEET, BY BITS -/
namespace Y
open PySem PySem.Spec PyProof.Rows L2
variable [Tabs]
inductive Pt where
  | word (w : Str)
  | beg (w : Str)
  | fin (w : Str)
  | any
  | upto (n : Nat)
  | inn (q : List (List Pt))
mutual
def ptOk : Pt → Nat → Prop
  | .word _, _ => True
  | .beg _, _ => True
  | .fin _, _ => True
  | .any, _ => True
  | .upto n, _ => n ≤ 1000
  | .inn q, k => ∃ j, k = j + 1 ∧ qOk q j
def psOk : List Pt → Nat → Prop
  | [], _ => True
  | p :: ps, k => ptOk p k ∧ psOk ps k
def qOk : List (List Pt) → Nat → Prop
  | [], _ => True
  | ps :: q, k => psOk ps k ∧ qOk q k
end
section
variable {row : List Str}
end
/-! a row of one part -/
end Y
set_option Elab.async false
set_option linter.all false
set_option autoImplicit false
set_option maxRecDepth 100000
set_option maxHeartbeats 400000
/-! WHAT THE LAWS ASK OF SPANS -/
namespace Y
open PySem PySem.Spec PyProof.Rows L2
variable [Tabs]
def wordsOk (ws : List Str) : Prop := ws.length = 4 ∧ ∀ z ∈ ws, z ≠ "" ∧ z.length ≤ 12
theorem wordsOk.get {ws : List Str} (h : wordsOk ws) {i : Nat} (hi : i < 4) : ws.getD i "" ∈ ws ∧ 1 ≤ (ws.getD i "").length ∧ (ws.getD i "").length ≤ 12 := by
  have hm : ws.getD i "" ∈ ws := getD_mem (by rw [h.1]; exact hi)
  refine ⟨hm, ?_, (h.2 _ hm).2⟩
  have := (h.2 _ hm).1
  rcases Nat.eq_zero_or_pos (ws.getD i "").length with z | z
  · exfalso
    apply this
    rw [← cl_eq_nil]
    exact List.eq_nil_of_length_eq_zero (by rw [cl_len]; exact z)
  · exact z
end Y
set_option Elab.async false
set_option linter.all false
set_option autoImplicit false
set_option maxRecDepth 100000
set_option maxHeartbeats 400000
/-! PARTS IN ORDER -/
namespace Y
open PySem PySem.Spec PyProof.Rows L2
variable [Tabs]
def numsF (n x : Nat) : List Nat := (List.range n).filter x.testBit
def qpartW (ways uptos : Int) (ws : List Str) (c : Int) : Pt :=
  if part c 30 ways = 0 then .any else if part c 30 ways = 1 then .upto (part c 31 uptos).toNat else
    let z := ws.getD (part c 32 4).toNat ""
    let n := 1 + part c 33 z.length
    if part c 30 ways = 2 then .beg (Txt.slice z none (some n)) else if part c 30 ways = 3 then .fin (Txt.slice z (some ((z.length : Int) - n)) none) else .word z
theorem numsF_len (n x : Nat) : (numsF n x).length ≤ n := Nat.le_trans (List.length_filter_le _ _) (by rw [List.length_range]; exact Nat.le_refl _)
theorem numsF_mem {n x i : Nat} : i ∈ numsF n x ↔ i < n ∧ x.testBit i = true := by
  unfold numsF
  rw [List.mem_filter, List.mem_range]
end Y
set_option Elab.async false
set_option linter.all false
set_option autoImplicit false
set_option maxRecDepth 100000
set_option maxHeartbeats 400000
/-! OWN LISTS OF LISTS, WITH LISTS WITHIN THEIR ITEMS -/
namespace Y
open PySem PySem.Spec PyProof.Rows L2
variable [Tabs]
section
variable {X : Cx} {F : Fn} {ρ : Rho} {Q : EndD} {rest : List Stmt} {e : Expr} {d : D} {pos p : Pos} {x : Str} {fr m1 : Bool} {ds : List D} {dss : List (List D)}
end
end Y
set_option Elab.async false
set_option linter.all false
set_option autoImplicit false
set_option maxRecDepth 100000
set_option maxHeartbeats 400000
/-! A QUESTION THAT GROWS BY CELLS -/
namespace Y
open PySem PySem.Spec PyProof.Rows L2
variable [Tabs]
abbrev pp (ws : List Str) (c : Int) : Pt := qpartW 6 4 ws c
structure QInv (ws : List Str) (n : Nat) (q : List (List Pt)) : Prop where
  ok : qOk q n
  ne : ∃ init last, q = init ++ [last]
  len : q.length ≤ n + 1
  rows : ∀ ps ∈ q, ps.length ≤ n + 2
end Y
set_option Elab.async false
set_option linter.all false
set_option autoImplicit false
set_option maxRecDepth 100000
set_option maxHeartbeats 400000
/-! SORTED INTS; THE PLAIN READING OF A QUESTION -/
namespace Y
open PySem PySem.Spec PyProof.Rows L2
variable [Tabs]
section
variable {X : Cx} {ρ : List (Option D)} {m m1 m2 : Bool} {a b : Expr} {p pos : Pos}
end
/-! the walk from places to places -/
/-- L are the bits of x below n -/
structure Rep (n x : Nat) (L : List Nat) : Prop where
  nd : L.Nodup
  mem : ∀ i, i ∈ L ↔ i < n ∧ x.testBit i = true
theorem numsF_nodup (n x : Nat) : (numsF n x).Nodup := (List.nodup_range).filter _
theorem Rep.perm {n x : Nat} {L : List Nat} (h : Rep n x L) : (numsF n x).Perm L := (List.perm_ext_iff_of_nodup (numsF_nodup n x) h.nd).mpr fun i => by rw [numsF_mem, h.mem]
theorem Rep.len {n x : Nat} {L : List Nat} (h : Rep n x L) : L.length ≤ n := by rw [← h.perm.length_eq]; exact numsF_len n x
section
variable {row : List Str}
end
mutual
def ptSm : Pt → Prop
  | .word w => w.length ≤ 1000
  | .beg w => w.length ≤ 1000
  | .fin w => w.length ≤ 1000
  | .any => True
  | .upto _ => True
  | .inn q => qSm q
def psSm : List Pt → Prop
  | [] => True
  | p :: ps => ptSm p ∧ psSm ps
def qSm : List (List Pt) → Prop
  | [] => True
  | ps :: q => psSm ps ∧ qSm q
end
section
end
end Y
set_option Elab.async false
set_option linter.all false
set_option autoImplicit false
set_option maxRecDepth 100000
set_option maxHeartbeats 400000
/-! RANGES BY STEPS, TUPLES IN LISTS, CHOICES AND BRACKETS -/
namespace L2
open PySem PySem.Spec PyProof.Rows
section
variable {X : Cx} {tg : Expr}
end
end L2
namespace Y
open PySem PySem.Spec PyProof.Rows L2
variable [Tabs]
def nst : Expr → Bool
  | .Starred _ _ => false
  | _ => true
/-- what is not starred, by its head alone -/
theorem star_ne {e : Expr} {es : List Expr} {env : Env} (h : nst e = true) : starEach (e :: es) env = (false, eval e env) :: starEach es env := by
  cases e with
  | Starred a b => cases h
  | _ => simp only [starEach]
section
variable {X : Cx} {ρ : List (Option D)} {m m1 m2 m3 : Bool} {tg a b c : Expr} {p pos : Pos}
/-- x not in a list, by data -/
theorem op_notInD : OpR X (compareOp .NotIn) (fun x y H Q => ∃ ds d Z Z', In X.K H Z d x ∧ In X.K H Z' (.lst ds) y ∧ X.A.units + 1 + deps ds < cLine ∧ Q (.bl (!(ds.any fun e => deq e d))) H) := by
  intro pins s σ H x y v u Q I rx ry h
  obtain ⟨ds, d, Z, Z', ix, iy, hu, q⟩ := h
  obtain ⟨p, xs, rfl, at', j⟩ := in_lst.mp iy
  cases ry
  obtain ⟨its, r, pl, hz⟩ := I.list at'.sq
  have hl1 := j.length
  have hl2 := r.length
  classical
  let e : Value → Bool := fun u => if h : ∃ e', ∃ w, RelV w u ∧ In X.K H Z' e' w then deq h.choose d else false
  have key : ∀ (i : Nat) u, its[i]? = some u → ∃ e', ds[i]? = some e' ∧ e u = deq e' d ∧ ∃ w, RelV w u ∧ In X.K H Z' e' w := fun i u hi => by
    have hlt := (List.getElem?_eq_some_iff.mp hi).1
    have hd : ds[i]? = some ds[i] := by simp
    obtain ⟨w, ew, iw⟩ := j.get hd
    obtain ⟨u', eu, ru⟩ := r.get ew
    rw [hi] at eu
    cases eu
    have hex : ∃ e', ∃ w, RelV w u ∧ In X.K H Z' e' w := ⟨_, w, ru, iw⟩
    refine ⟨ds[i], hd, ?_, w, ru, iw⟩
    show (if h : ∃ e', ∃ w, RelV w u ∧ In X.K H Z' e' w then deq h.choose d else false) = _
    rw [dif_pos hex]
    obtain ⟨w', rw', iw'⟩ := hex.choose_spec
    have ew' : w' = w := rw'.inj ru
    subst ew'
    rw [In.inj I iw' iw]
  refine SeqAt.notIn_listAt e pl.isList (fun u hu' => ?_) ⟨.bl _, H, I, rfl, ?_⟩
  · obtain ⟨i, hi, ei⟩ := List.mem_iff_getElem.mp (by simpa using hu' : u ∈ its)
    obtain ⟨e', hd, he, w, rw', iw⟩ := key i u (by rw [← ei]; simp [hi])
    rw [he]
    exact eqAt_D I (deps ds) (A := X.A.in1) iw ix rw' rx (deps_mem (List.mem_of_getElem? hd)) hu
  · have : its.toArray.any e = ds.any fun e => deq e d := by
      rw [Bool.eq_iff_iff]
      simp only [List.any_toArray, List.any_eq_true]
      constructor
      · rintro ⟨u, hu', h⟩
        obtain ⟨i, hi, ei⟩ := List.mem_iff_getElem.mp hu'
        obtain ⟨e', hd, he, _⟩ := key i u (by rw [← ei]; simp [hi])
        exact ⟨e', List.mem_of_getElem? hd, by rw [← he]; exact h⟩
      · rintro ⟨e', he', h⟩
        obtain ⟨i, hi, ei⟩ := List.mem_iff_getElem.mp he'
        have hit : i < its.length := by omega
        obtain ⟨e2, hd, he, _⟩ := key i its[i] (by simp [hit])
        have : e2 = e' := by
          have t : ds[i]? = some e' := by rw [← ei]; simp [hi]
          rw [hd] at t
          exact Option.some.inj t
        subst this
        exact ⟨its[i], List.getElem_mem hit, by rw [he]; exact h⟩
    rw [this]
    exact q
theorem t_notInD {d : D} {ds : List D} (ha : E X m1 ρ a d) (hb : E X m2 ρ b (.lst ds)) (hu : X.A.units + 1 + deps ds < cLine) (hm : behindInMarks .NotIn b = false := by rfl) : T X ρ (.Compare a [.NotIn] [b] pos) (!(ds.any fun e => deq e d)) :=
  t_cmp op_notInD ha hb (fun x y H Z Q _ i1 i2 k => ⟨_, _, _, _, i1, i2, hu, k _ (Same.refl H)⟩) hm
end
/-! what is met from several numbers is what is met from each -/
section
variable {row : List Str}
end
def behind (f g : List (Nat × Nat)) : List (Nat × Nat) := f.flatMap fun s => (g.filter fun t => decide (t.1 = s.2)).map fun t => (s.1, t.2)
theorem big20000 : 20000 ≤ sizeLine := by decide
end Y
set_option Elab.async false
set_option linter.all false
set_option autoImplicit false
set_option maxRecDepth 100000
set_option maxHeartbeats 400000
/-! list.count by data; a <= b < c -/
namespace Y
open PySem PySem.Spec PyProof.Rows L2
variable [Tabs]
section
variable {X : Cx}
variable {ρ : List (Option D)} {m m1 m2 m3 : Bool} {a b c o : Expr} {pos ap cp : Pos}
end
end Y
set_option Elab.async false
set_option linter.all false
set_option autoImplicit false
set_option maxRecDepth 100000
set_option maxHeartbeats 400000
/-! a dict of the module; abs, max; extend by any list; in a list, by data; own lists of lists by place -/
namespace Y
open PySem PySem.Spec PyProof.Rows L2
variable [Tabs]
/-- a dict that was made with the module: keys are tuples, values are ints -/
structure KD (K : PySem.W.Frag) (P : Program) (w : World) (a : Addr) (kvs : List (List Key × Int)) : Prop where
  ex : ∃ (es : Array DictEntry) (ep : Nat) (xs : List (List Key × Addr × Value)), K.lookup a = some ⟨.type "dict", none, .dict es ep, #[]⟩ ∧ es.toList = xs.map (entryOfKey (tupleKind (mixKind P w))) ∧
    (∀ x ∈ xs, ∃ o items n, K.lookup x.2.1 = some o ∧ o.cls = .type "tuple" ∧ o.data = .seq items n ∧ ItemsAre (mixKind P w) x.1 items.toList) ∧ (xs.map (·.1)).Nodup ∧ Paired (fun p x => p.1 = x.1 ∧ ∃ t, x.2.2 = .int p.2 t) kvs xs
def valI (kvs : List (List Key × Int)) (k : List Key) : Option Int := (kvs.find? fun kv => decide (kv.1 = k)).map (·.2)
section
variable {X : Cx} {pins : List (Addr × Obj)} {σ : St} {H : Hp} {s : Shared} {a b : Addr} {kvs : List (List Key × Int)}
theorem KD.at (I : Inv X pins σ H s) (kd : KD X.K X.prog X.w a kvs) : ∃ xs, s.heap.DictOfH (tupleKind (mixKind X.prog X.w)) a xs ∧ Paired (fun p x => p.1 = x.1 ∧ ∃ t, x.2.2 = .int p.2 t) kvs xs := by
  obtain ⟨es, ep, xs, h1, h2, h3, h4, h5⟩ := kd.ex
  refine ⟨xs, ⟨_, es, ep, I.kIn a _ h1, ⟨rfl, rfl, rfl⟩, rfl, h2, fun x hx => ?_, h4⟩, h5⟩
  obtain ⟨o, items, n, g1, g2, g3, g4⟩ := h3 x hx
  exact ⟨o, items, n, I.kIn _ o g1, g2, g3, g4⟩
theorem kd_find {xs : List (List Key × Addr × Value)} (q : Paired (fun p x => p.1 = x.1 ∧ ∃ t, x.2.2 = .int p.2 t) kvs xs) {k : List Key} {v : Int} (h : valI kvs k = some v) : ∃ p t, atKey xs k = some p ∧ p.2 = .int v t := by
  induction q with
  | nil => cases h
  | @cons p x ps xs' r t ih =>
    obtain ⟨e1, t0, e2⟩ := r
    by_cases hk : p.1 = k
    · have hv : p.2 = v := by
        have : valI (p :: ps) k = some p.2 := by simp [valI, List.find?_cons, hk]
        rw [this] at h
        exact Option.some.inj h
      refine ⟨x.2, t0, ?_, by rw [e2, hv]⟩
      simp [atKey, List.find?_cons, ← e1, hk]
    · have hr : valI (p :: ps) k = valI ps k := by simp [valI, List.find?_cons, hk]
      rw [hr] at h
      obtain ⟨p', t', g1, g2⟩ := ih h
      refine ⟨p', t', ?_, g2⟩
      have hx : ¬ x.1 = k := by rw [← e1]; exact hk
      rw [← g1]
      simp [atKey, List.find?_cons, hx]
theorem tup_key {ks : List Key} {Z : Zone} {y : V} {u : Value} (I : Inv X pins σ H s) (i : In X.K H Z (.tup (ks.map kD)) y) (r : RelV y u) : ∃ b, u = .ref b ∧ (tupleKind (mixKind X.prog X.w)).is s.heap ks b := by
  obtain ⟨b, xs, rfl, eb, j⟩ := in_tup.mp i
  rw [ins_kD j] at eb
  exact ⟨b, r, key_of I.hok eb⟩
variable {ρ : List (Option D)} {m m1 m2 m3 : Bool} {e f i o : Expr} {d : D} {pos p p2 ap cp : Pos} {x : Str}
theorem e_kdsub {ks : List Key} {v : Int} (hm : X.mg x = some (.ref a)) (kd : KD X.K X.prog X.w a kvs) (hi : E X m1 ρ i (.tup (ks.map kD))) (hv : valI kvs ks = some v) (hu : X.A.units + 1 < cLine) (hg : Gl X x := by rfl) (hd : (x == ("__debug__" : Str)) = false := by decide) (hs : NoSl i := by intro _ _; rfl) :
    E X true ρ (.Subscript (.Name x p) i pos) (.int v) := by
  intro pins s σ H Q I ⟨Z, oz, en, k⟩
  refine subD_of PySem.F.slot_dict_getitem.lookup hs (thn (pe_glob (X := X) (v := .ref a) hg hm rfl hd pins s σ H (fun x H1 => x = .ref a ∧ H1 = H) I ⟨rfl, rfl⟩) fun u s1 ⟨x, H1, I1, rx, ex, eh⟩ => ?_)
  subst ex eh
  obtain rfl : u = Value.ref a := rx
  refine thn (hi pins s1 σ H1 (fun y H2 => Same H1 H2 ∧ In X.K H2 Z (.tup (ks.map kD)) y) I1 ⟨Z, oz, en, fun y H2 s2 i2 => ⟨s2, i2.plain oz⟩⟩) fun iv s2 ⟨y, H2, I2, ry, sm, iy⟩ => ?_
  obtain ⟨xs, dd, q⟩ := kd.at I2
  obtain ⟨pr, t, g1, g2⟩ := kd_find q hv
  obtain ⟨b, rfl, hk⟩ := tup_key I2 iy ry
  refine ⟨dd.typeIs, wpAny_getItem_heap (tupleKind_room_in1 hu) hk dd g1 ?_⟩
  rw [g2]
  exact ⟨.int v, H2, I2.tok _, ⟨t, rfl⟩, k _ H2 sm (in_int.mpr rfl)⟩
theorem e_gint {j : Int} {t : Tok} (hm : X.mg x = some (.int j t)) (hg : Gl X x := by rfl) (hd : (x == ("__debug__" : Str)) = false := by decide) : E X true ρ (.Name x pos) (.int j) :=
  PE.mono (pe_glob (v := .int j) hg hm ⟨t, rfl⟩ hd) fun σ H Q ⟨Z, oz, en, k⟩ => k _ _ (Same.refl H) (in_int.mpr rfl)
theorem e_abs {j : Int} (ha : E X m1 ρ e (.int j)) (hm : X.mg "abs" = none) (hg : Gl X "abs" := by rfl) (hs : starEach [e] X.env = [(false, eval e X.env)] := by rfl) : E X true ρ (.Call (.Name "abs" p) [e] [] pos) (.int (if j < 0 then -j else j)) :=
  PE.mono (pe_callB call_abs hg hm PyProof.Rows.boot_abs (pa_cons ha pa_nil (by rw [hs]; rfl)) (by decide) (by decide) (by rw [hs]; rfl) rfl) fun σ H Q ⟨Z, oz, en, k⟩ => ⟨Z, oz, en, fun x H1 s1 i1 => ⟨j, by rw [in_int.mp (i1.plain oz)], k _ H1 s1 (in_int.mpr rfl)⟩⟩
theorem e_max2 {j l : Int} (ha : E X m1 ρ e (.int j)) (hb : E X m2 ρ f (.int l)) (hm : X.mg "max" = none) (hc : X.calm = true := by rfl) (hg : Gl X "max" := by rfl) (hs : starEach [e, f] X.env = [(false, eval e X.env), (false, eval f X.env)] := by rfl) (hs2 : starEach [f] X.env = [(false, eval f X.env)] := by rfl) :
    E X true ρ (.Call (.Name "max" p) [e, f] [] pos) (.int (if l > j then l else j)) :=
  PE.mono (pe_callB (call_max2 hc) hg hm PyProof.Rows.boot_max (pa_cons ha (pa_cons hb pa_nil (by rw [hs2]; rfl)) (by rw [hs, hs2])) (by decide) (by decide) (by rw [hs, hs2]) (by rw [hs2]; rfl)) fun σ H Q ⟨Z, oz, en, k⟩ => ⟨Z, oz, en, fun x H1 s1 i1 => ⟨Z, oz.same s1, en.same s1, fun y H2 s2 i2 => ⟨j, l, by rw [in_int.mp (i1.plain oz), in_int.mp (i2.plain (oz.same s1))], k _ H2 (s1.trans s2) (in_int.mpr rfl)⟩⟩⟩
/-- x in a list, by data -/
theorem op_inD : OpR X (compareOp .In) (fun x y H Q => ∃ ds d Z Z', In X.K H Z d x ∧ In X.K H Z' (.lst ds) y ∧ X.A.units + 1 + deps ds < cLine ∧ Q (.bl (ds.any fun e => deq e d)) H) := by
  intro pins s σ H x y v u Q I rx ry h
  obtain ⟨ds, d, Z, Z', ix, iy, hu, q⟩ := h
  obtain ⟨p, xs, rfl, at', j⟩ := in_lst.mp iy
  cases ry
  obtain ⟨its, r, pl, hz⟩ := I.list at'.sq
  have hl1 := j.length
  have hl2 := r.length
  classical
  let e : Value → Bool := fun u => if h : ∃ e', ∃ w, RelV w u ∧ In X.K H Z' e' w then deq h.choose d else false
  have key : ∀ (i : Nat) u, its[i]? = some u → ∃ e', ds[i]? = some e' ∧ e u = deq e' d ∧ ∃ w, RelV w u ∧ In X.K H Z' e' w := fun i u hi => by
    have hlt := (List.getElem?_eq_some_iff.mp hi).1
    have hd : ds[i]? = some ds[i] := by simp
    obtain ⟨w, ew, iw⟩ := j.get hd
    obtain ⟨u', eu, ru⟩ := r.get ew
    rw [hi] at eu
    cases eu
    have hex : ∃ e', ∃ w, RelV w u ∧ In X.K H Z' e' w := ⟨_, w, ru, iw⟩
    refine ⟨ds[i], hd, ?_, w, ru, iw⟩
    show (if h : ∃ e', ∃ w, RelV w u ∧ In X.K H Z' e' w then deq h.choose d else false) = _
    rw [dif_pos hex]
    obtain ⟨w', rw', iw'⟩ := hex.choose_spec
    have ew' : w' = w := rw'.inj ru
    subst ew'
    rw [In.inj I iw' iw]
  refine SeqAt.in_listAt e pl.isList (fun u hu' => ?_) ⟨.bl _, H, I, rfl, ?_⟩
  · obtain ⟨i, hi, ei⟩ := List.mem_iff_getElem.mp (by simpa using hu' : u ∈ its)
    obtain ⟨e', hd, he, w, rw', iw⟩ := key i u (by rw [← ei]; simp [hi])
    rw [he]
    exact eqAt_D I (deps ds) (A := X.A.in1) iw ix rw' rx (deps_mem (List.mem_of_getElem? hd)) hu
  · have : its.toArray.any e = ds.any fun e => deq e d := by
      rw [Bool.eq_iff_iff]
      simp only [List.any_toArray, List.any_eq_true]
      constructor
      · rintro ⟨u, hu', h⟩
        obtain ⟨i, hi, ei⟩ := List.mem_iff_getElem.mp hu'
        obtain ⟨e', hd, he, _⟩ := key i u (by rw [← ei]; simp [hi])
        exact ⟨e', List.mem_of_getElem? hd, by rw [← he]; exact h⟩
      · rintro ⟨e', he', h⟩
        obtain ⟨i, hi, ei⟩ := List.mem_iff_getElem.mp he'
        have hit : i < its.length := by omega
        obtain ⟨e2, hd, he, _⟩ := key i its[i] (by simp [hit])
        have : e2 = e' := by
          have t : ds[i]? = some e' := by rw [← ei]; simp [hi]
          rw [hd] at t
          exact Option.some.inj t
        subst this
        exact ⟨its[i], List.getElem_mem hit, by rw [he]; exact h⟩
    rw [this]
    exact q
theorem t_inD {ds : List D} (ha : E X m1 ρ e d) (hb : E X m2 ρ f (.lst ds)) (hu : X.A.units + 1 + deps ds < cLine) (hm : behindInMarks .In f = false := by rfl) : T X ρ (.Compare e [.In] [f] pos) (ds.any fun e => deq e d) :=
  t_cmp op_inD ha hb (fun x y H Z Q _ i1 i2 k => ⟨_, _, _, _, i1, i2, hu, k _ (Same.refl H)⟩) hm
end
open AutoSeq1 in
theorem extend_any (l : Addr) (xs : Array Value) (n : Nat) (b : Addr) (ys : Array Value) (m : Nat) (sl : Array (Option Value)) (hc0 : ¬(!xs.isEmpty && Builtin.List.listTooLong (xs.size + ys.size)) = true) (hc1 : xs.size ≤ sizeLine) (hs2 : xs.size + ys.size ≤ sizeLine + 1) :
    Meets (Builtin.«list.extend» ⟨[.ref l, .ref b], []⟩) (fun _ R s => s.heap.get? l = some ⟨.type "list", none, .seq xs n, #[]⟩ ∧ s.heap.get? b = some ⟨.type "list", none, .seq ys m, sl⟩ ∧ R (.ok (.ret Value.none)) { s with heap := s.heap.update l (Obj.mapSeq fun x => x ++ ys), toks := s.toks }) :=
  .of_wp fun prog w A R s h => by
    obtain ⟨hp, g, d, tk, os⟩ := s
    obtain ⟨hl, hb, h⟩ := h
    have f1 := F.sub_list_list
    have f2 := F.sub_list_tuple
    have hz' : (xs ++ ys).size ≤ sizeLine + 1 := by rw [Array.size_append]; exact hs2
    wp_walk using (wpAny_updateSeq hl rfl (hz := hc1) (_hz' := hz')), wpAny_loadPart' hl, wpAny_loadPart' hb
    exact ⟨_, rfl, h⟩
def rExtS (K : PySem.W.Frag) : V → List V → Hp → VK → Prop := fun x vs H Q => ∃ l b xs zs, x = .ref l ∧ vs = [.ref b] ∧ H l = some (.lst xs) ∧ SqL K H b zs ∧ xs.length + zs.length ≤ sizeLine ∧ Q .non (upd H l (.lst (xs ++ zs)))
section
variable {X : Cx}
theorem mt_extS : MtR X "list.extend" (rExtS X.K) := by
  intro pins s σ H x vs v us Q I rx rv h
  obtain ⟨l, b, xs, zs, rfl, rfl, hH, hB, hz, q⟩ := h
  cases rx
  obtain ⟨u, rfl, ru⟩ := rv.one
  cases ru
  obtain ⟨z, its, n, r, hl, e⟩ := I.lstM hH
  obtain ⟨its2, r2, ⟨⟨cls, dd, data, sl⟩, n2, e2, hc, hdn, hda⟩, z2⟩ := I.list hB
  have hc' : cls = .type "list" := hc
  have hd' : dd = none := hdn
  have ha' : data = .seq its2.toArray n2 := hda
  subst hc' hd' ha'
  have l1 := r.length
  have l2 := r2.length
  have hsz : its.toArray.size + its2.toArray.size ≤ sizeLine := by rw [List.size_toArray, List.size_toArray]; omega
  have hlong : ¬ (!its.toArray.isEmpty && Builtin.List.listTooLong (its.toArray.size + its2.toArray.size)) = true := by
    rw [notLongL hsz, Bool.and_false]
    exact Bool.false_ne_true
  refine call_meets F.slot_list_extend ⟨_, e, rfl⟩ F.entry_list_extend (F.args_list_extend_2 _ _) (extend_any l its.toArray n b its2.toArray n2 sl hlong (by rw [List.size_toArray]; omega) (by omega)) ⟨e, e2, ?_⟩
  refine ⟨.non, _, I.lset (its' := its ++ its2) hH e (by simp) (r.append r2) ?_, rfl, q⟩
  rw [List.length_append]
  omega
end
section
variable {X : Cx} {F : Fn} {ρ : Rho} {Q : EndD} {rest : List Stmt} {e : Expr} {d : D} {pos p : Pos} {fr m1 : Bool}
/-- xs.extend(e), the items flat -/
theorem sd_extendS (i : Nat) {x : Str} {ap cp : Pos} {ds es : List D} (fr : Bool) (h : ρ[i]? = some (some (.ow fr ds)) := by rfl) (he : E X m1 (view true false ρ) e (.lst es)) (fl : flats es = true) (hz : ds.length + es.length ≤ sizeLine) (hr : SD X F rest (ρ.set i (some (.ow fr (ds ++ es)))) Q)
    (hN : X.N[i]? = some x := by rfl) (hv : Vis X.env.scope x := by first | exact Or.inl rfl | exact Or.inr (Or.inl rfl) | exact Or.inr (Or.inr rfl)) (hd : (x == ("__debug__" : Str)) = false := by decide) (hcd : (x == ("__classdict__" : Str)) = false := by decide)
    (hbase : attributeBase (.Name x p) "extend" X.env (eval (.Name x p) X.env) = eval (.Name x p) X.env := by rfl) (hline : (ap.endLine == cp.line) = true := by rfl)
    (hs : starEach [e] X.env = [(false, eval e X.env)] := by rfl) (hsw : swapsWith (.Call (.Attribute (.Name x p) "extend" ap) [e] [] cp) none pos.line X.env = pure false := by rfl) :
    SD X F (.Expr (.Call (.Attribute (.Name x p) "extend" ap) [e] [] cp) pos :: rest) ρ Q := by
  refine sd_then (PS.mono (ps_expr (pe_bm PySem.F.plainAttrs_list PySem.F.slot_list_extend PySem.F.type_list_extend mt_extS (pe_var hN hv hd hcd) (pa_cons he pa_nil (by rw [hs]; rfl)) hbase (by rw [hs]; rfl) hline (by rw [hs]; rfl) rfl) hsw) fun Q' σ H ⟨hv, hρ, A, hl, S, f⟩ => ?_) hr
  obtain ⟨l, xs, e1, e2, e3, j⟩ := S.ow hl h
  refine ⟨.ref l, e1, .inl ⟨rfl, xs, SqL.of e3⟩, _, vz_open S true false, S.env hl true false, fun v H1 s1 i1 => ?_⟩
  obtain ⟨b, zs, rfl, at', j2⟩ := in_lst.mp i1
  refine ⟨l, b, xs, zs, rfl, rfl, s1.at e3, at'.sq, by rw [← j.length, ← j2.length]; exact hz, f.nx _ _ (put_ow hl (S.grow s1) e1 e2 (s1.at e3) ((j.same s1).append (j2.flat' fl)))⟩
end
end Y
set_option Elab.async false
set_option linter.all false
set_option autoImplicit false
set_option maxRecDepth 100000
set_option maxHeartbeats 400000
/-! nested displays: the judgements once more, as structures that don't unfold -/
namespace Y
open PySem PySem.Spec PyProof.Rows L2
variable [Tabs]
structure ES (X : Cx) (m : Bool) (ρ : List (Option D)) (e : Expr) (d : D) : Prop where
  ok : E X m ρ e d
structure ESA (X : Cx) (ρ : List (Option D)) (es : List Expr) (ds : List D) : Prop where
  ok : EA X ρ es ds
structure SDS (X : Cx) (F : Fn) (st : List Stmt) (ρ : Rho) (Q : EndD) : Prop where
  ok : SD X F st ρ Q
section
variable {X : Cx} {ρ : List (Option D)} {m m1 : Bool} {e : Expr} {es : List Expr} {d d' : D} {ds : List D} {pos : Pos}
theorem ES.cast (h : ES X m ρ e d) (q : d = d') : ES X m ρ e d' := q ▸ h
theorem es_lst (h : ESA X ρ es ds) (hz : ds.length ≤ 1000) : ES X false ρ (.List es pos) (.lst ds) := ⟨e_lst h.ok hz⟩
theorem esa_nil : ESA X ρ [] [] := ⟨ea_nil⟩
theorem esa_cons (ha : ES X m1 ρ e d) (hr : ESA X ρ es ds) (hs : starEach (e :: es) X.env = (false, eval e X.env) :: starEach es X.env) : ESA X ρ (e :: es) (d :: ds) := ⟨ea_cons ha.ok hr.ok hs⟩
end
section
variable {X : Cx} {F : Fn} {ρ : Rho} {Q : EndD} {rest : List Stmt} {e : Expr} {pos p : Pos}
structure ITS (X : Cx) (tg : Expr) (m : Bool) (ρ : List (Option D)) (iter : Expr) (ds : List D) : Prop where
  ok : IT X tg m ρ iter ds
theorem its_list {tg : Expr} {m : Bool} {r0 : List (Option D)} {ds : List D} (h : ES X m r0 e (.lst ds)) : ITS X tg m r0 e ds := ⟨it_list h.ok⟩
end
end Y
set_option Elab.async false
set_option linter.all false
set_option autoImplicit false
set_option maxRecDepth 100000
set_option maxHeartbeats 400000
/-! own lists of lists by place -/
namespace Y
open PySem PySem.Spec PyProof.Rows L2
variable [Tabs]
section
variable {X : Cx} {F : Fn} {ρ : Rho} {Q : EndD} {rest : List Stmt} {e : Expr} {d : D} {pos p : Pos} {m1 : Bool}
end
end Y
set_option Elab.async false
set_option linter.all false
set_option autoImplicit false
set_option maxRecDepth 100000
set_option maxHeartbeats 400000
/-! prices of steps -/
namespace Y
open PySem PySem.Spec PyProof.Rows L2
variable [Tabs]
def prD (p : Str × Str) : D := .tup [.str p.1, .str p.2]
def prsD (ps : List (Str × Str)) : D := .lst (ps.map prD)
def prK (p : Str × Str) : List Key := [.inr p.1, .inr p.2]
theorem prD_key (p : Str × Str) : prD p = .tup ((prK p).map kD) := rfl
theorem prK_inj {p q : Str × Str} (h : prK p = prK q) : p = q := by
  unfold prK at h
  injection h with h1 h
  injection h with h2 h
  injection h1 with h1
  injection h2 with h2
  exact Prod.ext h1 h2
def pairedK (ps : List (Str × Str)) : List (List Key × V) := ps.foldl (fun kvs p => putK kvs (prK p) (V.bl true)) []
theorem pairedK_snoc (ps : List (Str × Str)) (p : Str × Str) : pairedK (ps ++ [p]) = putK (pairedK ps) (prK p) (V.bl true) := by
  unfold pairedK
  rw [List.foldl_append]
  rfl
theorem snocI {α : Type} {P : List α → Prop} (h0 : P []) (h1 : ∀ l a, P l → P (l ++ [a])) (l : List α) : P l := by
  have : ∀ r : List α, P r.reverse := fun r => by
    induction r with
    | nil => exact h0
    | cons a r ih => rw [List.reverse_cons]; exact h1 _ _ ih
  simpa using this l.reverse
theorem pairedK_len (ps : List (Str × Str)) : (pairedK ps).length ≤ ps.length := by
  refine snocI (P := fun ps => (pairedK ps).length ≤ ps.length) (Nat.le_refl _) (fun l a ih => ?_) ps
  rw [pairedK_snoc, List.length_append]
  have := length_putK (pairedK l) (prK a) (V.bl true)
  simp
  omega
theorem pairedK_val (ps : List (Str × Str)) (q : Str × Str) : valV (pairedK ps) (prK q) = if q ∈ ps then some (V.bl true) else none := by
  refine snocI (P := fun ps => valV (pairedK ps) (prK q) = if q ∈ ps then some (V.bl true) else none) (by simp [pairedK, valV]) (fun l a ih => ?_) ps
  rw [pairedK_snoc, valV_put, ih]
  by_cases h : prK q = prK a
  · rw [if_pos h, prK_inj h]
    simp
  · have hne : q ≠ a := fun e => h (by rw [e])
    rw [if_neg h]
    simp [hne]
def gByPair (ds : List D) (d : D) : Prop := ∃ ps : List (Str × Str), ps.length ≤ 900 ∧ ds = [prsD ps] ∧ d = .dct (.t (pairedK ps))
def gWordsOf (ds : List D) (d : D) : Prop := ∃ rows : List (List Str), tot rows ≤ 900 ∧ ds = [rowsD rows] ∧ d = strsD rows.flatten
theorem flatten_len (rows : List (List Str)) : rows.flatten.length = tot rows := by rw [List.length_flatten]; rfl
/-- words that go with one of the others -/
def goL (ps : List (Str × Str)) (rs : List Str) (w : Str) : Bool := rs.any fun r => decide ((w, r) ∈ ps)
def goR (ps : List (Str × Str)) (ls : List Str) (w : Str) : Bool := ls.any fun l => decide ((l, w) ∈ ps)
def loneN (ls rs : List Str) (ps : List (Str × Str)) : Nat := (ls.filter fun w => !goL ps rs w).length + (rs.filter fun w => !goR ps ls w).length
/-- a dict of what was met: by the first, or by the second one -/
def metK (f : Str × Str → Str) (ps done : List (Str × Str)) : List (Key × V) := done.foldl (fun k p => if p ∈ ps then putK k (.inr (f p)) (V.bl true) else k) []
theorem metK_snoc (f : Str × Str → Str) (ps done : List (Str × Str)) (p : Str × Str) : metK f ps (done ++ [p]) = if p ∈ ps then putK (metK f ps done) (.inr (f p)) (V.bl true) else metK f ps done := by
  unfold metK
  rw [List.foldl_append]
  rfl
theorem metK_len (f : Str × Str → Str) (ps done : List (Str × Str)) : (metK f ps done).length ≤ done.length := by
  refine snocI (P := fun done => (metK f ps done).length ≤ done.length) (Nat.le_refl _) (fun l a ih => ?_) done
  rw [metK_snoc, List.length_append]
  split
  · have := length_putK (metK f ps l) (.inr (f a)) (V.bl true)
    simp
    omega
  · simp
    omega
theorem metK_val (f : Str × Str → Str) (ps done : List (Str × Str)) (w : Str) : (valV (metK f ps done) (.inr w)).isSome = done.any fun p => decide (p ∈ ps) && decide (f p = w) := by
  refine snocI (P := fun done => (valV (metK f ps done) (.inr w)).isSome = done.any fun p => decide (p ∈ ps) && decide (f p = w)) (by simp [metK, valV]) (fun l a ih => ?_) done
  rw [metK_snoc, List.any_append, ← ih]
  by_cases h : a ∈ ps
  · rw [if_pos h, valV_put]
    by_cases e : f a = w
    · rw [if_pos (by rw [e])]
      simp [h, e]
    · rw [if_neg (fun z => e (by injection z with z; exact z.symm))]
      simp [h, e]
  · rw [if_neg h]
    simp [h]
def doneP (ls rs : List Str) : List (Str × Str) := ls.flatMap fun l => rs.map fun r => (l, r)
theorem doneP_snoc (ls rs : List Str) (l : Str) : doneP (ls ++ [l]) rs = doneP ls rs ++ rs.map fun r => (l, r) := by
  unfold doneP
  rw [List.flatMap_append]
  simp
theorem doneP_len : ∀ (ls rs : List Str), (doneP ls rs).length = ls.length * rs.length
  | [], rs => by simp [doneP]
  | l :: ls, rs => by
    have ih := doneP_len ls rs
    unfold doneP at ih ⊢
    rw [List.flatMap_cons, List.length_append, ih, List.length_map, List.length_cons, Nat.succ_mul]
    omega
theorem done_goL (ls rs : List Str) (ps : List (Str × Str)) {w : Str} (hw : w ∈ ls) : ((doneP ls rs).any fun p => decide (p ∈ ps) && decide (p.1 = w)) = goL ps rs w := by
  rw [Bool.eq_iff_iff]
  unfold doneP goL
  simp only [List.any_eq_true, List.mem_flatMap, List.mem_map, Bool.and_eq_true, decide_eq_true_eq]
  constructor
  · rintro ⟨p, ⟨l, hl, r, hr, rfl⟩, h1, rfl⟩
    exact ⟨r, hr, h1⟩
  · rintro ⟨r, hr, h⟩
    exact ⟨(w, r), ⟨w, hw, r, hr, rfl⟩, h, rfl⟩
theorem done_goR (ls rs : List Str) (ps : List (Str × Str)) {w : Str} (hw : w ∈ rs) : ((doneP ls rs).any fun p => decide (p ∈ ps) && decide (p.2 = w)) = goR ps ls w := by
  rw [Bool.eq_iff_iff]
  unfold doneP goR
  simp only [List.any_eq_true, List.mem_flatMap, List.mem_map, Bool.and_eq_true, decide_eq_true_eq]
  constructor
  · rintro ⟨p, ⟨l, hl, r, hr, rfl⟩, h1, rfl⟩
    exact ⟨l, hl, h1⟩
  · rintro ⟨l, hl, h⟩
    exact ⟨(l, w), ⟨l, hl, w, hw, rfl⟩, h, rfl⟩
def gLone (ds : List D) (d : D) : Prop := ∃ (ls rs : List Str) (ps : List (Str × Str)), ls.length ≤ 100 ∧ rs.length ≤ 100 ∧ ps.length ≤ 900 ∧ ds = [strsD ls, strsD rs, .dct (.t (pairedK ps))] ∧ d = .int (loneN ls rs ps : Nat)
/-- the five steps -/
def stepsL : List (Nat × Nat) := [(1, 1), (1, 2), (2, 1), (1, 0), (0, 1)]
def stepsK : List (List Key × Int) := [([.inl 1, .inl 1], 0), ([.inl 1, .inl 2], 1), ([.inl 2, .inl 1], 1), ([.inl 1, .inl 0], 2), ([.inl 0, .inl 1], 2)]
def stepNo (a b : Nat) : Nat := if a = 1 ∧ b = 1 then 0 else if 0 < a ∧ 0 < b then 1 else 2
theorem stepsK_val {a b : Nat} (h : (a, b) ∈ stepsL) : valI stepsK [.inl (a : Int), .inl (b : Int)] = some ((stepNo a b : Nat) : Int) := by
  simp only [stepsL, List.mem_cons, Prod.mk.injEq, List.not_mem_nil, or_false] at h
  rcases h with ⟨rfl, rfl⟩ | ⟨rfl, rfl⟩ | ⟨rfl, rfl⟩ | ⟨rfl, rfl⟩ | ⟨rfl, rfl⟩ <;> decide
theorem stepNo_lt (a b : Nat) : stepNo a b < 3 := by
  unfold stepNo
  split
  · decide
  split <;> decide
def intsT (ns : List Int) : D := .tup (ns.map D.int)
def dist (a b : Nat) : Int := if ((a : Int) - (b : Int)) < 0 then -((a : Int) - (b : Int)) else (a : Int) - (b : Int)
def stepP (ls rs : List (List Str)) (prices : List Int) (ps : List (Str × Str)) : Int := prices.getD (stepNo ls.length rs.length) 0 + prices.getD 3 0 * dist ls.flatten.length rs.flatten.length + prices.getD 4 0 * (loneN ls.flatten rs.flatten ps : Nat)
def PrOk (ls rs : List (List Str)) (prices : List Int) (ps : List (Str × Str)) : Prop := tot ls ≤ 100 ∧ tot rs ≤ 100 ∧ prices.length = 5 ∧ ps.length ≤ 900 ∧ (ls.length, rs.length) ∈ stepsL
def gStepPrice (ds : List D) (d : D) : Prop := ∃ (ls rs : List (List Str)) (prices : List Int) (ps : List (Str × Str)), PrOk ls rs prices ps ∧ ds = [rowsD ls, rowsD rs, intsT prices, .dct (.t (pairedK ps))] ∧ d = .int (stepP ls rs prices ps)
def gPrice (ds : List D) (d : D) : Prop := ∃ (ls rs : List (List Str)) (prices : List Int) (ps : List (Str × Str)), PrOk ls rs prices ps ∧ ds = [rowsD ls, rowsD rs, intsT prices, prsD ps] ∧ d = .int (stepP ls rs prices ps)
theorem loneN_le (ls rs : List Str) (ps : List (Str × Str)) : loneN ls rs ps ≤ ls.length + rs.length := by
  have h1 := List.length_filter_le (fun w => !goL ps rs w) ls
  have h2 := List.length_filter_le (fun w => !goR ps ls w) rs
  unfold loneN
  omega
theorem dist_lt {a b : Nat} (ha : a ≤ 100) (hb : b ≤ 100) : -(2 ^ 64 : Int) < dist a b ∧ dist a b < 2 ^ 64 := by
  unfold dist
  split <;> constructor <;> omega
theorem ints_get {ns : List Int} {n : Nat} (h : n < ns.length) : (ns.map D.int)[n]? = some (.int (ns.getD n 0)) := by simp [h]
/-- the five steps, as the module holds them -/
theorem kd_steps {K : PySem.W.Frag} {P : Program} {w : World} {aS : Addr} {ep : Nat} {h1 : Int} {b1 : Addr} {t1 u1 v1 : Tok} {o1 : Option Addr} {n1 : Nat} {s1 : Array (Option Value)} {h2 : Int} {b2 : Addr} {t2 u2 v2 : Tok} {o2 : Option Addr} {n2 : Nat} {s2 : Array (Option Value)} {h3 : Int} {b3 : Addr} {t3 u3 v3 : Tok} {o3 : Option Addr} {n3 : Nat} {s3 : Array (Option Value)} {h4 : Int} {b4 : Addr} {t4 u4 v4 : Tok} {o4 : Option Addr} {n4 : Nat} {s4 : Array (Option Value)} {h5 : Int} {b5 : Addr} {t5 u5 v5 : Tok} {o5 : Option Addr} {n5 : Nat} {s5 : Array (Option Value)}
    (sd : K.lookup aS = some ⟨.type "dict", none, .dict #[⟨h1, .ref b1, .int 0 t1⟩, ⟨h2, .ref b2, .int 1 t2⟩, ⟨h3, .ref b3, .int 1 t3⟩, ⟨h4, .ref b4, .int 2 t4⟩, ⟨h5, .ref b5, .int 2 t5⟩] ep, #[]⟩)
    (q1 : K.lookup b1 = some ⟨.type "tuple", o1, .seq #[.int 1 u1, .int 1 v1] n1, s1⟩) (e1 : h1 = tupleKeyHash (mixKind P w) [.inl 1, .inl 1])
    (q2 : K.lookup b2 = some ⟨.type "tuple", o2, .seq #[.int 1 u2, .int 2 v2] n2, s2⟩) (e2 : h2 = tupleKeyHash (mixKind P w) [.inl 1, .inl 2])
    (q3 : K.lookup b3 = some ⟨.type "tuple", o3, .seq #[.int 2 u3, .int 1 v3] n3, s3⟩) (e3 : h3 = tupleKeyHash (mixKind P w) [.inl 2, .inl 1])
    (q4 : K.lookup b4 = some ⟨.type "tuple", o4, .seq #[.int 1 u4, .int 0 v4] n4, s4⟩) (e4 : h4 = tupleKeyHash (mixKind P w) [.inl 1, .inl 0])
    (q5 : K.lookup b5 = some ⟨.type "tuple", o5, .seq #[.int 0 u5, .int 1 v5] n5, s5⟩) (e5 : h5 = tupleKeyHash (mixKind P w) [.inl 0, .inl 1]) : KD K P w aS stepsK := by
  subst e1 e2 e3 e4 e5
  refine ⟨_, _, [([.inl 1, .inl 1], b1, .int 0 t1), ([.inl 1, .inl 2], b2, .int 1 t2), ([.inl 2, .inl 1], b3, .int 1 t3), ([.inl 1, .inl 0], b4, .int 2 t4), ([.inl 0, .inl 1], b5, .int 2 t5)], sd, rfl, fun x hx => ?_, by simp, .cons ⟨rfl, _, rfl⟩ (.cons ⟨rfl, _, rfl⟩ (.cons ⟨rfl, _, rfl⟩ (.cons ⟨rfl, _, rfl⟩ (.cons ⟨rfl, _, rfl⟩ .nil))))⟩
  simp only [List.mem_cons, List.not_mem_nil, or_false] at hx
  rcases hx with rfl | rfl | rfl | rfl | rfl
  · exact ⟨_, _, _, q1, rfl, rfl, items_are (ks := [.inl 1, .inl 1]) (.cons ⟨_, rfl⟩ (.cons ⟨_, rfl⟩ .nil))⟩
  · exact ⟨_, _, _, q2, rfl, rfl, items_are (ks := [.inl 1, .inl 2]) (.cons ⟨_, rfl⟩ (.cons ⟨_, rfl⟩ .nil))⟩
  · exact ⟨_, _, _, q3, rfl, rfl, items_are (ks := [.inl 2, .inl 1]) (.cons ⟨_, rfl⟩ (.cons ⟨_, rfl⟩ .nil))⟩
  · exact ⟨_, _, _, q4, rfl, rfl, items_are (ks := [.inl 1, .inl 0]) (.cons ⟨_, rfl⟩ (.cons ⟨_, rfl⟩ .nil))⟩
  · exact ⟨_, _, _, q5, rfl, rfl, items_are (ks := [.inl 0, .inl 1]) (.cons ⟨_, rfl⟩ (.cons ⟨_, rfl⟩ .nil))⟩
end Y
set_option Elab.async false
set_option linter.all false
set_option autoImplicit false
set_option maxRecDepth 100000
set_option maxHeartbeats 400000
/-! the law's own prices -/
namespace Y
open PySem PySem.Spec PyProof.Rows L2
variable [Tabs]
theorem tot_take_le (R : List (List Str)) (n : Nat) : tot (R.take n) ≤ tot R := by
  have h := tot_append (R.take n) (R.drop n)
  rw [List.take_append_drop] at h
  omega
theorem tot_drop_le (R : List (List Str)) (n : Nat) : tot (R.drop n) ≤ tot R := by
  have h := tot_append (R.take n) (R.drop n)
  rw [List.take_append_drop] at h
  omega
def pairsL (ws vs : List Str) (c : Int) : List (Str × Str) := (List.range (part c 42 9).toNat).map fun k => (ws.getD (part c (43 + ((k : Nat) : Int)) 4).toNat "", vs.getD (part c (53 + ((k : Nat) : Int)) 4).toNat "")
theorem pairsL_len (ws vs : List Str) (c : Int) : (pairsL ws vs c).length ≤ 9 := by
  unfold pairsL
  rw [List.length_map, List.length_range]
  have := part_lt c 42 (show (0 : Int) < 9 by decide)
  omega
def gPairs (ds : List D) (d : D) : Prop := ∃ (ws vs : List Str) (c : Int), ws.length = 4 ∧ vs.length = 4 ∧ ds = [strsD ws, strsD vs, .int c] ∧ d = prsD (pairsL ws vs c)
def pricesL (c : Int) : List Int := if 0 < part c 41 3 then (List.range 5).map fun k => part c (44 + ((k : Nat) : Int)) 6 else [c % (10 ^ 60 + 1), c % (10 ^ 60 + 1) / 3, c % (10 ^ 60 + 1) / 7, c % (10 ^ 60 + 1) / 11, c % (10 ^ 60 + 1) % 13]
theorem pricesL_len (c : Int) : (pricesL c).length = 5 := by
  unfold pricesL
  split
  · rw [List.length_map, List.length_range]
  · rfl
def gPrices (ds : List D) (d : D) : Prop := ∃ c : Int, ds = [.int c] ∧ d = intsT (pricesL c)
/-- how many words are lone: by the first ones of the pairs, or by the second ones -/
def loneB (tn : Bool) (os : List Str) (ps : List (Str × Str)) (w : Str) : Bool := ps.any fun p => (tn && (decide (p.2 = w) && decide (p.1 ∈ os))) || (!tn && (decide (p.1 = w) && decide (p.2 ∈ os)))
theorem loneB_f (os : List Str) (ps : List (Str × Str)) (w : Str) : loneB false os ps w = goL ps os w := by
  rw [Bool.eq_iff_iff]
  unfold loneB goL
  simp only [List.any_eq_true, Bool.false_and, Bool.not_false, Bool.true_and, Bool.false_or, Bool.and_eq_true, decide_eq_true_eq]
  constructor
  · rintro ⟨p, hp, rfl, ho⟩
    exact ⟨p.2, ho, hp⟩
  · rintro ⟨r, hr, h⟩
    exact ⟨(w, r), h, rfl, hr⟩
theorem loneB_t (os : List Str) (ps : List (Str × Str)) (w : Str) : loneB true os ps w = goR ps os w := by
  rw [Bool.eq_iff_iff]
  unfold loneB goR
  simp only [List.any_eq_true, Bool.true_and, Bool.not_true, Bool.false_and, Bool.or_false, Bool.and_eq_true, decide_eq_true_eq]
  constructor
  · rintro ⟨p, hp, rfl, ho⟩
    exact ⟨p.1, ho, hp⟩
  · rintro ⟨r, hr, h⟩
    exact ⟨(r, w), h, rfl, hr⟩
def gLoneL (ds : List D) (d : D) : Prop := ∃ (ws os : List Str) (ps : List (Str × Str)) (tn : Bool), ds = [strsD ws, strsD os, prsD ps, .bl tn] ∧ d = .int ((ws.filter fun w => !loneB tn os ps w).length : Nat)
theorem any_strs (os : List Str) (w : Str) : ((os.map D.str).any fun e => deq e (.str w)) = decide (w ∈ os) := by
  rw [Bool.eq_iff_iff]
  simp only [List.any_map, List.any_eq_true, Function.comp_apply, decide_eq_true_eq]
  constructor
  · rintro ⟨x, hx, h⟩
    rw [told_str] at h
    have : x = w := by simpa using h
    exact this ▸ hx
  · intro h
    exact ⟨w, h, by rw [told_str]; simp⟩
theorem maxdist (a b : Nat) : (if ((b : Int) - (a : Int)) > (a : Int) - (b : Int) then (b : Int) - (a : Int) else (a : Int) - (b : Int)) = dist a b := by
  unfold dist
  split <;> split <;> omega
theorem filter_snoc {α : Type} (p : α → Bool) (l : List α) (a : α) : (l ++ [a]).filter p = l.filter p ++ (if p a then [a] else []) := by
  rw [List.filter_append]
  congr 1
  by_cases h : p a = true <;> simp [h]
theorem deps_strsL (ws : List Str) : deps (ws.map D.str) ≤ 0 := by
  induction ws with
  | nil => simp [deps]
  | cons w ws ih => simp [deps, D.dep]; omega
end Y
set_option Elab.async false
set_option linter.all false
set_option autoImplicit false
set_option maxRecDepth 100000
set_option maxHeartbeats 400000
/-! k72: texts, ways, beside -/
namespace Y
open PySem PySem.Spec PyProof.Rows L2
variable [Tabs]
/-! ### any of bools -/
section
variable {X : Cx}
variable {ρ : List (Option D)} {m1 : Bool} {a : Expr} {p pos : Pos}
end
section
variable {X : Cx} {F : Fn} {ρ : Rho} {Q : EndD} {rest : List Stmt} {pos p : Pos}
/-- xs.pop() of an own list of lists, what it gives is dropped -/
theorem sd_pop2 (i : Nat) {x : Str} {ap cp : Pos} {dss : List (List D)} {ds : List D} (fr : Bool) (h : ρ[i]? = some (some (.ow2 fr (dss ++ [ds]))) := by rfl)
    (hr : SD X F rest (ρ.set i (some (.ow2 fr dss))) Q)
    (hN : X.N[i]? = some x := by rfl) (hv : Vis X.env.scope x := by first | exact Or.inl rfl | exact Or.inr (Or.inl rfl) | exact Or.inr (Or.inr rfl)) (hd : (x == ("__debug__" : Str)) = false := by decide) (hcd : (x == ("__classdict__" : Str)) = false := by decide)
    (hbase : attributeBase (.Name x p) "pop" X.env (eval (.Name x p) X.env) = eval (.Name x p) X.env := by rfl) (hline : (ap.endLine == cp.line) = true := by rfl)
    (hsw : swapsWith (.Call (.Attribute (.Name x p) "pop" ap) [] [] cp) none pos.line X.env = pure false := by rfl) :
    SD X F (.Expr (.Call (.Attribute (.Name x p) "pop" ap) [] [] cp) pos :: rest) ρ Q := by
  refine sd_then (PS.mono (ps_expr (pe_bm0 PySem.F.plainAttrs_list PySem.F.slot_list_pop PySem.F.type_list_pop mt_pop (pe_var hN hv hd hcd) hbase hline) hsw) fun Q' σ H ⟨hv, hρ, A, hl, S, f⟩ => ?_) hr
  obtain ⟨l, as, e1, e2, e3, j⟩ := S.ow2 hl h
  have hi : i < σ.length := (List.getElem?_eq_some_iff.mp e1).1
  obtain ⟨bs, a, xs, rfl, j1, ea, ja⟩ := j.unsnoc
  have hnd := S.nd i
  rw [e2] at hnd
  have hlb : l ∉ bs := fun z => (List.nodup_cons.mp hnd).1 (by simp [z])
  have hndb : (l :: bs).Nodup := List.nodup_cons.mpr ⟨hlb, (List.nodup_append.mp (List.nodup_cons.mp hnd).2).1⟩
  refine ⟨.ref l, e1, .inl ⟨rfl, _, SqL.of e3⟩, l, _, .ref a, rfl, rfl, e3, ?_, f.nx _ _ ?_⟩
  · rw [List.map_append]
    simp
  rw [show ((bs ++ [a]).map V.ref).dropLast = bs.map V.ref by rw [List.map_append]; simp]
  have lA : l ∈ A i := by rw [e2]; simp
  have kk : ∀ b o, H b = some o → isT o = false → b ∉ A i → (upd H l (.lst (bs.map V.ref))) b = some o := fun b o e n hb => by
    have : b ≠ l := fun z => hb (z ▸ lA)
    rw [upd_ne this]; exact e
  have mine : ∀ b ∈ l :: bs, b ∈ A i ∨ H b = none := fun b hb => .inl (by rw [e2]; rcases List.mem_cons.mp hb with rfl | hb <;> simp [*])
  refine ⟨_, putA A i (l :: bs), by simp [hl], ?_, rfl⟩
  have key := S.re (i := i) (v := .ref l) (sl := .ow2 fr dss) (l := l :: bs) (H2 := upd H l (.lst (bs.map V.ref))) (by rw [List.length_append]; omega) (by rw [List.length_append]; omega) (S.same.write (S.new i l lA) e3) kk hndb (fun b hb => ⟨mine b hb, ?_⟩) ⟨l, bs, rfl, rfl, upd_same, ?_⟩
  · rw [set_self (by rw [List.getElem?_append_left hi]; exact e1), set_app (by omega)] at key
    exact key
  · by_cases z : b = l
    · exact ⟨.l _, by rw [z, upd_same]; rfl⟩
    · rw [upd_ne z]
      exact S.lst i b (by rw [e2]; rcases List.mem_cons.mp hb with rfl | hb <;> simp [*])
  · refine j1.carry (fun b ys hb e => ?_) (carry_re S kk mine fr)
    have : b ≠ l := fun z => hlb (z ▸ hb)
    rw [upd_ne this]; exact e
end
/-! ### texts -/
def stepT (ws : List Str) (rows : List (List Str)) (c : Int) : List (List Str) := if part c 21 6 < 4 then rows.dropLast ++ [rows.getLast?.getD [] ++ [ws.getD (part c 21 6).toNat ""]] else if rows.length < 5 then rows ++ [[]] else rows
def textT (ws : List Str) (cells : List Int) : List (List Str) := cells.foldl (stepT ws) [[]]
def textA (ws : List Str) (cells : List Int) : List (List Str) := if part (((textT ws cells).getLast?.getD []).length + cells.length) 24 5 = 1 then (textT ws cells).dropLast else textT ws cells
theorem textT_snoc (ws : List Str) (cells : List Int) (c : Int) : textT ws (cells ++ [c]) = stepT ws (textT ws cells) c := by
  unfold textT
  rw [List.foldl_append]
  rfl
structure TxOk (ws : List Str) (n : Nat) (rows : List (List Str)) : Prop where
  ln : rows.length ≤ 5
  tt : tot rows ≤ n
  mm : ∀ r ∈ rows, ∀ z ∈ r, z ∈ ws
theorem textT_ok {ws : List Str} (hw : ws.length = 4) (cells : List Int) : TxOk ws cells.length (textT ws cells) ∧ ∃ init last, textT ws cells = init ++ [last] := by
  refine snocI (P := fun cells => TxOk ws cells.length (textT ws cells) ∧ ∃ init last, textT ws cells = init ++ [last]) ⟨⟨by show 1 ≤ 5; decide, Nat.le_refl 0, fun r hr z hz => ?_⟩, [], [], rfl⟩ (fun l c ⟨⟨h1, h2, h3⟩, init, last, e⟩ => ?_) cells
  · have : r = [] := by simpa [textT] using hr
    subst this
    simp at hz
  · rw [textT_snoc, List.length_append, List.length_singleton]
    rw [e] at h1 h2 h3 ⊢
    have p0 := part_nn c 21 (show (0 : Int) < 6 by decide)
    unfold stepT
    rw [List.dropLast_concat, List.getLast?_concat]
    split
    · rename_i hk
      rw [tot_append] at h2
      refine ⟨⟨by simpa using h1, ?_, fun r hr z hz => ?_⟩, init, _, rfl⟩
      · rw [tot_append]
        simp [tot] at h2 ⊢
        omega
      · rcases List.mem_append.mp hr with hr | hr
        · exact h3 r (by simp [hr]) z hz
        · have : r = last ++ [ws.getD (part c 21 6).toNat ""] := by simpa using hr
          subst this
          rcases List.mem_append.mp hz with hz | hz
          · exact h3 last (by simp) z hz
          · have : z = ws.getD (part c 21 6).toNat "" := by simpa using hz
            rw [this]
            exact getD_mem (by omega)
    split
    · rename_i hk h5
      refine ⟨⟨by simp at h5 ⊢; omega, ?_, fun r hr z hz => ?_⟩, init ++ [last], [], rfl⟩
      · rw [tot_append]
        simp [tot] at h2 ⊢
        omega
      · rcases List.mem_append.mp hr with hr | hr
        · exact h3 r hr z hz
        · have : r = [] := by simpa using hr
          subst this
          simp at hz
    · exact ⟨⟨h1, by omega, h3⟩, init, last, rfl⟩
theorem textA_ok {ws : List Str} (hw : ws.length = 4) (cells : List Int) : TxOk ws cells.length (textA ws cells) := by
  obtain ⟨⟨h1, h2, h3⟩, init, last, e⟩ := textT_ok hw cells
  unfold textA
  split
  · rw [e] at h1 h2 h3 ⊢
    rw [List.dropLast_concat]
    rw [tot_append] at h2
    exact ⟨by simp at h1; omega, by omega, fun r hr => h3 r (by simp [hr])⟩
  · exact ⟨h1, h2, h3⟩
def gText (ds : List D) (d : D) : Prop := ∃ (ws : List Str) (cells : List Int), ws.length = 4 ∧ cells.length ≤ 60 ∧ ds = [strsD ws, intsD cells] ∧ d = rowsD (textA ws cells)
/-! ### ways -/
def fitS (m o i j : Nat) : List (Nat × Nat) := stepsL.filter fun s => decide (i + s.1 ≤ m) && decide (j + s.2 ≤ o)
structure WSt where
  st : List (Nat × Nat)
  i : Nat
  j : Nat
/-- the steps stay within both texts -/
def WayIn (m o : Nat) : Nat → Nat → List (Nat × Nat) → Prop
  | i, j, [] => i ≤ m ∧ j ≤ o
  | i, j, s :: r => i + s.1 ≤ m ∧ j + s.2 ≤ o ∧ WayIn m o (i + s.1) (j + s.2) r
def sum1 (st : List (Nat × Nat)) : Nat := (st.map (·.1)).sum
def sum2 (st : List (Nat × Nat)) : Nat := (st.map (·.2)).sum
/-! ### links, beside -/
end Y
set_option Elab.async false
set_option linter.all false
set_option autoImplicit false
set_option maxRecDepth 100000
set_option maxHeartbeats 400000
/-! list(range(a, b)) -/
namespace Y
open PySem PySem.Spec PyProof.Rows L2
variable [Tabs]
section
variable {X : Cx}
variable {ρ : List (Option D)} {m1 m2 : Bool} {a b : Expr} {p p2 pos pos2 : Pos}
end
section
variable {X : Cx} {F : Fn} {ρ : Rho} {Q : EndD} {rest body : List Stmt} {pos : Pos}
theorem sds_forF (k : Nat) {x : Str} {px : Pos} {iter : Expr} {ds : List D} {mi : Bool} (P : Nat → Rho → Prop) (hi : ITS X (.Name x px) mi (view false false ρ) iter ds) (fl : ∀ d ∈ ds, d.flat = true) (h0 : P 0 ρ) (hlen : ∀ n r, P n r → k < r.length)
    (hb : ∀ (n : Nat) d r, ds[n]? = some d → P n r → SD X F body (r.set k (some (.pl true d))) { Q with nx := P (n + 1), ct := P (n + 1), bk := fun r => SD X F rest r Q }) (hd : ∀ r, P ds.length r → SD X F rest r Q)
    (hN : X.N.Nodup) (hx : X.N[k]? = some x) (hxl : Loc X.env.scope x) (hf : X.fn x = true ∨ X.env.scope.names.lookup x = some .local) (hc : X.calm = true) (hs : ∀ x, foldedSetIterable iter X.env x = pure x) (hp : PassesOwn (model X.prog X.w) X.A X.env X.xe) :
    SDS X F (.For (.Name x px) iter body [] pos :: rest) ρ Q := ⟨sd_forF k P hi.ok fl h0 hlen hb hd hN hx hxl hf hc hs hp⟩
end
/-! ### contracts -/
def RwOk (rows : List (List Str)) : Prop := rows.length ≤ 5 ∧ tot rows ≤ 13 ∧ ∀ r ∈ rows, ∀ z ∈ r, z.length ≤ 1000
def QsOk (q : List (List Pt)) : Prop := qOk q 9 ∧ qSm q
structure BsOk (ls rs : List (List Str)) (st : List (Nat × Nat)) (one other : List (List Pt)) : Prop where
  l : RwOk ls
  r : RwOk rs
  w : WayIn ls.length rs.length 0 0 st
  n : st.length ≤ 20
  a : QsOk one
  b : QsOk other
theorem sum1_snoc (st : List (Nat × Nat)) (s : Nat × Nat) : sum1 (st ++ [s]) = sum1 st + s.1 := by simp [sum1]
theorem sum2_snoc (st : List (Nat × Nat)) (s : Nat × Nat) : sum2 (st ++ [s]) = sum2 st + s.2 := by simp [sum2]
end Y
set_option Elab.async false
set_option linter.all false
set_option autoImplicit false
set_option maxRecDepth 100000
set_option maxHeartbeats 4000000
/-! a for over a dict, whatever its keys are -/
namespace Y
open PySem PySem.Spec PyProof.Rows L2
section
variable {prog : Program} {w : World} {A : Around} {E : Value → Shared → Prop} {s : Shared} {it d : Addr} {i ep : Nat} {es : Array DictEntry}
end
end Y
set_option Elab.async false
set_option linter.all false
set_option autoImplicit false
set_option maxRecDepth 100000
set_option maxHeartbeats 4000000
/-! a for over a dict that was made with the module: its keys, tuples made with the module -/
namespace Y
open PySem PySem.Spec PyProof.Rows L2
variable [Tabs]
/-- the keys of a dict of the module, in their order -/
structure KI (K : PySem.W.Frag) (a : Addr) (kss : List (List Key)) : Prop where
  ns : (a == sysModules) = false
  ex : ∃ (es : Array DictEntry) (ep : Nat) (bs : List Addr), K.lookup a = some ⟨.type "dict", none, .dict es ep, #[]⟩ ∧ es.toList.map (·.key) = bs.map Value.ref ∧ Paired (fun ks b => KTup K b ks) kss bs
section
variable {X : Cx} {ρ : List (Option D)} {m m1 : Bool} {e i : Expr} {tg : Expr} {p pos : Pos} {x : Str} {a : Addr} {kss : List (List Key)}
variable {f : Expr} {m2 : Bool}
end
end Y
set_option Elab.async false
set_option linter.all false
set_option autoImplicit false
set_option maxRecDepth 100000
set_option maxHeartbeats 400000
/-! papers: the steps by their keys; the table -/
namespace Y
open PySem PySem.Spec PyProof.Rows L2
/-- the steps, in the module's order -/
def stepsP : List (Nat × Nat) := [(1, 1), (1, 2), (2, 1), (1, 0), (0, 1)]
def keyP (p : Nat × Nat) : List Key := [.inl (p.1 : Int), .inl (p.2 : Int)]
theorem ki_steps {K : PySem.W.Frag} {aS : Addr} {ep : Nat} {h1 h2 h3 h4 h5 : Int} {b1 b2 b3 b4 b5 : Addr} {t1 t2 t3 t4 t5 u1 u2 u3 u4 u5 v1 v2 v3 v4 v5 : Tok} {o1 o2 o3 o4 o5 : Option Addr} {n1 n2 n3 n4 n5 : Nat} {s1 s2 s3 s4 s5 : Array (Option Value)}
    (ns : (aS == sysModules) = false) (sd : K.lookup aS = some ⟨.type "dict", none, .dict #[⟨h1, .ref b1, .int 0 t1⟩, ⟨h2, .ref b2, .int 1 t2⟩, ⟨h3, .ref b3, .int 1 t3⟩, ⟨h4, .ref b4, .int 2 t4⟩, ⟨h5, .ref b5, .int 2 t5⟩] ep, #[]⟩)
    (q1 : K.lookup b1 = some ⟨.type "tuple", o1, .seq #[.int 1 u1, .int 1 v1] n1, s1⟩) (q2 : K.lookup b2 = some ⟨.type "tuple", o2, .seq #[.int 1 u2, .int 2 v2] n2, s2⟩) (q3 : K.lookup b3 = some ⟨.type "tuple", o3, .seq #[.int 2 u3, .int 1 v3] n3, s3⟩)
    (q4 : K.lookup b4 = some ⟨.type "tuple", o4, .seq #[.int 1 u4, .int 0 v4] n4, s4⟩) (q5 : K.lookup b5 = some ⟨.type "tuple", o5, .seq #[.int 0 u5, .int 1 v5] n5, s5⟩) : KI K aS (stepsP.map keyP) :=
  have two : ∀ {a b : Int} {u v : Tok}, (#[Value.int a u, Value.int b v] : Array Value).size ≤ sizeLine := by intros; show 2 ≤ sizeLine; unfold sizeLine; omega
  have pair : ∀ {b : Addr} {x y : Nat} {o : Option Addr} {u v : Tok} {n : Nat} {s : Array (Option Value)}, K.lookup b = some ⟨.type "tuple", o, .seq #[.int x u, .int y v] n, s⟩ → KTup K b (keyP (x, y)) := fun q => ⟨_, _, _, q, rfl, rfl, two, .cons ⟨_, rfl⟩ (.cons ⟨_, rfl⟩ .nil)⟩
  ⟨ns, _, ep, [b1, b2, b3, b4, b5], sd, rfl, .cons (pair q1) (.cons (pair q2) (.cons (pair q3) (.cons (pair q4) (.cons (pair q5) .nil))))⟩
/-! ### what a paper holds, over plain data -/
section
variable (price : Nat → Nat → Nat × Nat → Int)
/-- a step may end a way for l and r rows -/
def mayEnd (l r : Nat) (p : Nat × Nat) : Bool := decide (p.1 ≤ l ∧ p.2 ≤ r)
/-- the endings for l and r rows, over a table -/
def endings (tab : Nat → Nat → Int × Int) (l r : Nat) : List ((Nat × Nat) × Int × Int) := (stepsP.filter (mayEnd l r)).map fun p => (p, (tab (l - p.1) (r - p.2)).1 + price l r p, (tab (l - p.1) (r - p.2)).2)
def leastI : List Int → Int
  | [] => 0
  | [a] => a
  | a :: b :: r => min a (leastI (b :: r))
def entryM (tab : Nat → Nat → Int × Int) (l r : Nat) : Int × Int :=
  if l = 0 ∧ r = 0 then (0, 1) else
    let f := endings price tab l r
    let m := leastI (f.map (·.2.1))
    (m, ((f.filter fun x => decide (x.2.1 = m)).map (·.2.2)).sum)
/-- an entry asks only for places with fewer rows -/
theorem endings_congr {t t' : Nat → Nat → Int × Int} {l r : Nat} (h : ∀ i j, i ≤ l → j ≤ r → i + j < l + r → t i j = t' i j) : endings price t l r = endings price t' l r := by
  unfold endings
  refine List.map_congr_left fun p hp => ?_
  obtain ⟨hm, hf⟩ := List.mem_filter.mp hp
  have hle : p.1 ≤ l ∧ p.2 ≤ r := of_decide_eq_true hf
  have hpos : 0 < p.1 + p.2 := by
    simp only [stepsP, List.mem_cons, List.not_mem_nil, or_false] at hm
    rcases hm with rfl | rfl | rfl | rfl | rfl <;> decide
  rw [h (l - p.1) (r - p.2) (by omega) (by omega) (by omega)]
theorem entry_congr {t t' : Nat → Nat → Int × Int} {l r : Nat} (h : ∀ i j, i ≤ l → j ≤ r → i + j < l + r → t i j = t' i j) : entryM price t l r = entryM price t' l r := by
  unfold entryM
  rw [endings_congr price h]
end
end Y
set_option Elab.async false
set_option linter.all false
set_option autoImplicit false
set_option maxRecDepth 100000
set_option maxHeartbeats 4000000
/-! <, <=, >= of lists and tuples -/
namespace Y
open PySem PySem.Spec PyProof.Rows L2 PySem.SeqAt AutoSeq1 MeetsSeq MeetsSeq2 MeetsSeq3
end Y
set_option Elab.async false
set_option linter.all false
set_option autoImplicit false
set_option maxRecDepth 100000
set_option maxHeartbeats 4000000
/-! <, <=, >= of data -/
namespace Y
open PySem PySem.Spec PyProof.Rows L2 PySem.SeqAt
variable [Tabs]
inductive Od where
  | lt | le | ge
def Od.op : Od → CmpOp
  | .lt => .Lt
  | .le => .LtE
  | .ge => .GtE
def Od.sz : Od → Nat → Nat → Bool
  | .lt, m, n => decide (m < n)
  | .le, m, n => decide (m ≤ n)
  | .ge, m, n => decide (m ≥ n)
def Od.int : Od → Int → Int → Bool
  | .lt, m, n => decide (m < n)
  | .le, m, n => decide (m ≤ n)
  | .ge, m, n => decide (n ≤ m)
def Od.str : Od → Str → Str → Bool
  | .lt, a, b => decide (cl a < cl b)
  | .le, a, b => !decide (cl b < cl a)
  | .ge, a, b => !decide (cl a < cl b)
mutual
def dor (o : Od) : D → D → Bool
  | .int a, .int b => o.int a b
  | .str a, .str b => o.str a b
  | .lst a, .lst b => dors o a b
  | .tup a, .tup b => dors o a b
  | _, _ => false
def dors (o : Od) : List D → List D → Bool
  | [], bs => o.sz 0 bs.length
  | a :: as, [] => o.sz (as.length + 1) 0
  | a :: as, b :: bs => if deq a b then dors o as bs else dor o a b
end
mutual
/-- they can be put in order -/
def cmpb : D → D → Bool
  | .int _, .int _ => true
  | .str _, .str _ => true
  | .lst a, .lst b => cmpbs a b
  | .tup a, .tup b => cmpbs a b
  | _, _ => false
def cmpbs : List D → List D → Bool
  | [], _ => true
  | _ :: _, [] => true
  | a :: as, b :: bs => cmpb a b && cmpbs as bs
end
section
variable {X : Cx} {pins : List (Addr × Obj)} {σ : St} {H : Hp} {s : Shared} {Z Z' : Zone}
end
section
variable {X : Cx}
variable {ρ : List (Option D)} {m1 m2 : Bool} {a b : Expr} {d d' : D} {pos : Pos}
end
end Y
set_option Elab.async false
set_option linter.all false
set_option autoImplicit false
set_option maxRecDepth 100000
set_option maxHeartbeats 4000000
/-! sorting with keys on the heap: fewer than 64 items, one run and insertions -/
namespace Y
open PySem PySem.Spec PyProof.Rows L2
/-- the sort's state: a permutation, nothing failed, nothing pending -/
structure SB (kd : SortKind) (a0 : Array Keyed) (st : SortSt) : Prop where
  pm : (arrOf st).Perm a0
  kd : kindOf st = kd
  ok : failedOf st = none
  pd : pendingOf st = #[]
section
variable {kd : SortKind} {a0 : Array Keyed} {κ : PyProof.Rows.KeyKind} {st : SortSt}
theorem SB.sz (h : SB kd a0 st) : (arrOf st).size = a0.size := h.pm.size_eq
variable {prog : Program} {w : World} {A : Around} {E : Value → Shared → Prop} {s : Shared}
end
end Y
set_option Elab.async false
set_option linter.all false
set_option autoImplicit false
set_option maxRecDepth 100000
set_option maxHeartbeats 4000000
/-! orders of data that are told apart; keys of a sort -/
namespace Y
open PySem PySem.Spec PyProof.Rows L2 PySem.SeqAt
variable [Tabs]
/-- the data that P tells stand in one strict order -/
structure Lin (P : D → Prop) : Prop where
  ir : ∀ a, P a → dor .lt a a = false
  tr : ∀ a b c, P a → P b → P c → dor .lt a b = true → dor .lt b c = true → dor .lt a c = true
  tt : ∀ a b, P a → P b → dor .lt a b = false → dor .lt b a = false → a = b
  cm : ∀ a b, P a → P b → cmpb a b = true
  eq : ∀ a b, P a → P b → deq a b = true → a = b
def isInt (d : D) : Prop := ∃ i, d = .int i
/-! ### the keys -/
section
variable {X : Cx} {pins : List (Addr × Obj)} {σ : St} {H : Hp} {s : Shared} {Z Z' : Zone}
/-- a value is told by its datum: there is one datum at most -/
theorem in_one (I : Inv X pins σ H s) : ∀ (n : Nat) {d d' : D} {v : V}, d.dep ≤ n → In X.K H Z d v → In X.K H Z' d' v → d = d' := fun _ _ _ _ _ i i' => In.inj I i i'
/-- the value u stands for d -/
def Tells (K : PySem.W.Frag) (H : Hp) (Z : Zone) (u : Value) (d : D) : Prop := ∃ v, RelV v u ∧ In K H Z d v
theorem Tells.one (I : Inv X pins σ H s) {u : Value} {d d' : D} (a : Tells X.K H Z u d) (b : Tells X.K H Z' u d') : d = d' := by
  obtain ⟨v, r, i⟩ := a
  obtain ⟨v', r', i'⟩ := b
  cases r.inj r'
  exact in_one I d.dep (Nat.le_refl _) i i'
end
end Y
set_option Elab.async false
set_option linter.all false
set_option autoImplicit false
set_option maxRecDepth 100000
set_option maxHeartbeats 4000000
/-! less, as a sort asks it -/
namespace Y
open PySem PySem.Spec PyProof.Rows L2 PySem.SeqAt
variable [Tabs]
/-- one value less than another: the state stays -/
def OneL (b : Bool) (A : Around) (s : Shared) (x y : Value) (r : Bool) : Prop :=
  ∀ (prog : Program) (w : World) (E : Value → Shared → Prop) (Q : Bool → Shared → Prop), Q r s → wpAny (model prog w) A (oneLt' b x y) Q E s
section
variable {X : Cx} {pins : List (Addr × Obj)} {σ : St} {H : Hp} {s : Shared} {Z Z' : Zone} {A : Around}
/-- what may stand first in a key -/
def plainK : D → Bool
  | .int _ => true
  | .str _ => true
  | .lst _ => true
  | _ => false
/-- the walk over two keys -/
inductive Cmps (A : Around) (s : Shared) (b : Bool) : Nat → List Value → List Value → List D → List D → Prop
  | nil {n : Nat} {us ws : List Value} {ds es : List D} (h : us.zip ws = []) (g : us.length = ds.length) (g2 : ws.length = es.length) : Cmps A s b n us ws ds es
  | cons {n : Nat} {u w : Value} {us ws : List Value} {d e : D} {ds es : List D} (h : EqAt A s u w (deq d e)) (o : deq d e = false → OneL (b && n == 0) A s u w (dor .lt d e)) (t : Cmps A s b (n + 1) us ws ds es) : Cmps A s b n (u :: us) (w :: ws) (d :: ds) (e :: es)
end
end Y
set_option Elab.async false
set_option linter.all false
set_option autoImplicit false
set_option maxRecDepth 100000
set_option maxHeartbeats 4000000
/-! a sort's keys: their kind, their order -/
namespace Y
open PySem PySem.Spec PyProof.Rows L2 PySem.SeqAt
variable [Tabs]
section
variable {X : Cx} {pins : List (Addr × Obj)} {σ : St} {H : Hp} {s : Shared} {Z Z' : Zone} {A : Around}
/-! ### the kind of keys -/
def tyD : D → String
  | .int _ => "int"
  | .str _ => "str"
  | .lst _ => "list"
  | _ => "tuple"
variable {M : Model} {E : Value → Shared → Prop}
end
end Y
set_option Elab.async false
set_option linter.all false
set_option autoImplicit false
set_option maxRecDepth 100000
set_option maxHeartbeats 4000000
/-! a list of data is sorted -/
namespace Y
open PySem PySem.Spec PyProof.Rows L2 PySem.SeqAt
variable [Tabs]
/-- keys of one kind: plain ones of one type, or tuples whose first items are so -/
inductive KindOf (P : D → Prop) : SortKind → Prop
  | one (T : String) (hT : T = "int" ∨ T = "str" ∨ T = "list") (h : ∀ d, P d → plainK d = true ∧ tyD d = T) : KindOf P oneType'
  | tup (T : String) (hT : T = "int" ∨ T = "str" ∨ T = "list") (h : ∀ d, P d → ∃ x r, d = .tup (x :: r) ∧ plainK x = true ∧ tyD x = T) : KindOf P (tuples' true)
section
variable {X : Cx} {pins : List (Addr × Obj)} {σ : St} {H : Hp} {s : Shared} {Z Z' : Zone} {A : Around} {P : D → Prop} {kd : SortKind} {M : Model} {E : Value → Shared → Prop}
/-! ### the sort of a list without a key -/
variable {prog : Program} {w : World} {κ : PyProof.Rows.KeyKind}
end
end Y
set_option Elab.async false
set_option linter.all false
set_option autoImplicit false
set_option maxRecDepth 100000
set_option maxHeartbeats 4000000
/-! sorted(a) -/
namespace Y
open PySem PySem.Spec PyProof.Rows L2 PySem.SeqAt
variable [Tabs]
section
variable {X : Cx} {pins : List (Addr × Obj)} {σ : St} {H : Hp} {s : Shared} {Z Z' : Zone} {A : Around} {P : D → Prop} {kd : SortKind} {M : Model} {E : Value → Shared → Prop} {f : D → D}
end
/-! ### the call -/
section
variable {X : Cx}
variable {ρ : List (Option D)} {m m1 : Bool} {a : Expr} {ds : List D} {p pos : Pos} {P : D → Prop} {kd : SortKind}
end
end Y
set_option Elab.async false
set_option linter.all false
set_option autoImplicit false
set_option maxRecDepth 100000
set_option maxHeartbeats 400000
/-! a list of data is sorted by a key that a function of the heap tells -/
namespace Y
open PySem PySem.Spec PyProof.Rows L2 PySem.SeqAt
variable [Tabs]
/-- the key of an item is asked by a call; what Good says stays while the heap grows, and while a list outside the zone is written -/
structure Keys (X : Cx) (A : Around) (σ : St) (fa : Addr) (f : D → D) (P0 : D → Prop) (Good : Hp → Zone → Prop) : Prop where
  zone : ∀ {H : Hp} {Z Z' : Zone}, (∀ a o, H a = some o → Z.S a → Z'.S a) → (Z.m = false → Z'.m = false) → Good H Z → Good H Z'
  same : ∀ {H H' : Hp} {Z : Zone}, Same H H' → Good H Z → Good H' Z
  write : ∀ {H : Hp} {Z : Zone} {l : Addr} {xs ys : List V}, H l = some (.lst xs) → ¬ Z.S l → Good H Z → Good (upd H l (.lst ys)) Z
  run : ∀ (E : Value → Shared → Prop) (pins : List (Addr × Obj)) (s : Shared) (H : Hp) (Z : Zone) (u : Value) (d : D) (Q : Value → Shared → Prop), Inv X pins σ H s → Z.Open H → Good H Z → Tells X.K H Z u d → P0 d →
    (∀ k H' s', Inv X pins σ H' s' → Same H H' → Tells X.K H' Z k (f d) → Q k s') → wpAny (model X.prog X.w) A (call (.ref fa) [u]) Q E s
section
variable {X : Cx} {pins : List (Addr × Obj)} {σ : St} {H : Hp} {s : Shared} {Z : Zone} {A : Around} {P P0 : D → Prop} {kd : SortKind} {E : Value → Shared → Prop} {f : D → D} {fa a : Addr} {Good : Hp → Zone → Prop}
end
end Y
set_option Elab.async false
set_option linter.all false
set_option autoImplicit false
set_option maxRecDepth 100000
set_option maxHeartbeats 400000
/-! functions made in a body: lambdas -/
namespace Y
open PySem PySem.Spec PyProof.Rows L2 PySem.SeqAt
variable [Tabs]
section
variable {X : Cx} {pins : List (Addr × Obj)} {σ : St} {H : Hp} {s : Shared} {P c f : Addr} {ps more : Array Value} {h' : Heap} {t' : Nat}
/-- the module of the built-ins, as the globals name it -/
def BmB (mg : Str → Option Value) (base : Heap) : Prop := ∃ bm o, mg "__builtins__" = some (.ref bm) ∧ base.get? bm = some o ∧ bm ≠ builtinsNs ∧ bm ≠ mainGlobals ∧ o.cls = .type "module" ∧ o.dict = some builtinsNs ∧ o.data = .plain
/-- a def that makes functions: its code, the code's table -/
structure LamCx (X : Cx) (c P : Addr) (qn : Str) : Prop where
  code : X.env.code = .ref c
  hd : PySem.W.codeHdIn X.K c P = true
  tab : (P, qn) ∈ Tabs.T
  one : ∀ q ∈ Tabs.T, q.1 = P → q.2 = qn
  qual : X.env.qual ++ ("<lambda>" : Str) = qn
  bm : BmB X.mg X.base
  gP : mainGlobals ≠ P
variable {A : Around} {E : Value → Shared → Prop} {params : Arguments} {body : Expr} {scope : Scope} {lpos : Pos} {clos : List (Str × Addr)} {qn : Str}
end
end Y
set_option Elab.async false
set_option linter.all false
set_option autoImplicit false
set_option maxRecDepth 100000
set_option maxHeartbeats 400000
/-! a lambda is called -/
namespace Y
open PySem PySem.Spec PyProof.Rows L2 PySem.SeqAt
variable [Tabs]
/-- the written part of a lambda: one parameter, names that it takes from around (and their numbers there) -/
structure LamOk (X : Cx) (scope : Scope) (clos : List (Str × Addr)) (p : Str) (caps : List (Str × Nat)) : Prop where
  kind : scope.kind = .function
  co : scope.isCoroutine = false
  gen : scope.isGenerator = false
  nocell : ∀ x ∈ scope.names, x.2 ≠ .cell
  par : scope.names.lookup p = some .local
  cap : ∀ q ∈ caps, X.N[q.2]? = some q.1 ∧ X.env.kindOf q.1 = some .cell ∧ clos.lookup q.1 = X.env.cells.lookup q.1 ∧ scope.names.lookup q.1 = some .free
  sub : ∀ x c, clos.lookup x = some c → X.env.cells.lookup x = some c
  has : ∀ x, scope.names.lookup x = some .free → ∃ c, clos.lookup x = some c
section
variable {X : Cx} {pins : List (Addr × Obj)} {σ : St} {H : Hp} {s : Shared} {f c : Addr} {A : Around} {scope : Scope} {clos : List (Str × Addr)} {p qn : Str} {caps : List (Str × Nat)}
variable {ρ : List (Option D)} {params : Arguments} {body : Expr} {pm ctv : Value} {g : D → D} {P0 : D → Prop} {m : Bool}
end
end Y
set_option Elab.async false
set_option linter.all false
set_option autoImplicit false
set_option maxRecDepth 100000
set_option maxHeartbeats 400000
/-! sorted(a, key=lambda ..) -/
namespace Y
open PySem PySem.Spec PyProof.Rows L2 PySem.SeqAt
variable [Tabs]
section
variable {X : Cx} {ρ : List (Option D)} {m m1 mb : Bool} {a : Expr} {ds : List D} {p pos lpos kp : Pos} {P P0 : D → Prop} {kd : SortKind} {c Pt : Addr} {qn pn : Str} {params : Arguments} {body : Expr} {scope : Scope} {clos : List (Str × Addr)} {caps : List (Str × Nat)} {g : D → D}
end
end Y
set_option Elab.async false
set_option linter.all false
set_option autoImplicit false
set_option maxRecDepth 100000
set_option maxHeartbeats 400000
/-! the law's head, with tables that grow -/
namespace Y
open PySem PySem.Spec PyProof.Rows L2
variable [Tabs]
end Y
set_option Elab.async false
set_option linter.all false
set_option autoImplicit false
set_option maxRecDepth 100000
set_option maxHeartbeats 400000
/-! a def whose code is known -/
namespace Y
open PySem PySem.Spec PyProof.Rows L2
variable [Tabs]
structure FunC (K : PySem.W.Frag) (x qual : Str) (st : Stmt) (f : Addr) (fd : FuncData) (c : Addr) : Prop where
  ex : ∃ (oc : Value) (od : Option Addr) (kV doc pm : Value) (an : Option Addr) (ct : Value) (osl : Array (Option Value)),
    fd = PySem.W.fnOf x qual (defArgs st) (defBody st) (defScope st) .none kV doc pm an (.ref c) ct ∧ K.lookup f = some ⟨oc, od, .func fd, osl⟩ ∧ PySem.W.codeIn K (.ref c) qual = true
  kp : PySem.W.keepIn K (.ref f) = true
theorem FunC.fn {K : PySem.W.Frag} {x qual : Str} {st : Stmt} {f c : Addr} {fd : FuncData} (F : FunC K x qual st f fd c) : Fun K x qual st f fd := by
  obtain ⟨oc, od, kV, doc, pm, an, ct, osl, e, lk, hcd⟩ := F.ex
  exact ⟨⟨oc, od, kV, doc, pm, an, .ref c, ct, osl, e, lk, hcd⟩, F.kp⟩
section
variable {P : Program} {w : World} {K : PySem.W.Frag} {mg : Str → Option Value} {base : Heap}
end
end Y
set_option Elab.async false
set_option linter.all false
set_option autoImplicit false
set_option maxRecDepth 100000
set_option maxHeartbeats 400000
/-! the order of ends -/
namespace Y
open PySem PySem.Spec PyProof.Rows L2
variable [Tabs]
structure LamK (K : PySem.W.Frag) (mg : Str → Option Value) (base : Heap) (c P : Addr) (qn : Str) : Prop where
  hd : PySem.W.codeHdIn K c P = true
  tab : (P, qn) ∈ Tabs.T
  one : ∀ q ∈ Tabs.T, q.1 = P → q.2 = qn
  bm : BmB mg base
  gP : mainGlobals ≠ P
theorem Lin.sub {P Q : D → Prop} (L : Lin P) (h : ∀ d, Q d → P d) : Lin Q :=
  ⟨fun a x => L.ir a (h a x), fun a b c x y z => L.tr a b c (h a x) (h b y) (h c z), fun a b x y => L.tt a b (h a x) (h b y), fun a b x y => L.cm a b (h a x) (h b y), fun a b x y => L.eq a b (h a x) (h b y)⟩
end Y
set_option Elab.async false
set_option linter.all false
set_option autoImplicit false
set_option maxRecDepth 100000
set_option maxHeartbeats 400000
/-! what is sorted rises -/
namespace Y
open PySem PySem.Spec PyProof.Rows L2
variable [Tabs]
/-! ### sum of ints -/
theorem ints_of : ∀ {ns : List Int} {us : List Value}, Vals (ns.map V.int) us → IntsAre us ns
  | [], _, r => by cases r; exact .nil
  | n :: ns, _, r => by
    cases r with
    | cons a r => obtain ⟨t, rfl⟩ := a; exact .cons n t (ints_of r)
section
variable {X : Cx}
theorem call_sum : CallR X (.builtin "sum") (fun xs H Q => X.A.handled = none ∧ ∃ (l : Addr) (ns : List Int), xs = [.ref l] ∧ SqL X.K H l (ns.map V.int) ∧ Q (.int ns.sum) H) := by
  intro pins s σ H xs us Q I r h
  obtain ⟨hh, l, ns, rfl, hq, q⟩ := h
  obtain ⟨u, rfl, rx⟩ := vals1 r
  cases rx
  obtain ⟨its, rv, pl, hz⟩ := I.list hq
  have hi := ints_of rv
  obtain ⟨xs, e⟩ := hi.allInts.items
  have hl := pl.isList
  rw [e] at hl
  have hs : preSum (numAt xs) xs.size = ns.sum := by
    have h1 := hi.numsOf
    have h2 : its = (intItems xs).toList := by rw [← e]
    rw [h2, nums_intItems] at h1
    rw [preSum_eq, List.take_of_length_le (by simp), h1]
  refine PySem.sum_intListG hh hl fun h' tk t' hk => ?_
  rw [hs]
  exact ⟨.int ns.sum, H, I.kept hk, ⟨t', rfl⟩, q⟩
variable {ρ : List (Option D)} {m1 : Bool} {a : Expr} {p pos : Pos}
theorem e_sum {ns : List Int} (ha : E X m1 ρ a (.lst (ns.map D.int))) (hh : X.A.handled = none) (hm : X.mg "sum" = none) (hg : Gl X "sum" := by rfl) (hs : starEach [a] X.env = [(false, eval a X.env)] := by rfl) : E X true ρ (.Call (.Name "sum" p) [a] [] pos) (.int ns.sum) :=
  PE.mono (pe_callB call_sum hg hm PyProof.Rows.boot_sum (pa_cons ha pa_nil (by rw [hs]; rfl)) (by decide) (by decide) (by rw [hs]; rfl) rfl) fun σ H Q ⟨Z, oz, en, k⟩ => ⟨Z, oz, en, fun x H1 s1 i1 => by
    obtain ⟨l, xs, rfl, at', j⟩ := in_lst.mp (i1.plain oz)
    rw [ins_ints_inv j] at at'
    exact ⟨hh, l, ns, rfl, at'.sq, k _ H1 s1 (in_int.mpr rfl)⟩⟩
end
end Y
set_option Elab.async false
set_option linter.all false
set_option autoImplicit false
set_option maxRecDepth 100000
set_option maxHeartbeats 400000
/-! min of a list of ints -/
namespace Y
open PySem PySem.Spec PyProof.Rows L2
section
variable [Tabs] {X : Cx}
variable {ρ : List (Option D)} {m1 : Bool} {a : Expr} {p pos : Pos}
end
end Y
set_option Elab.async false
set_option linter.all false
set_option autoImplicit false
set_option maxRecDepth 100000
set_option maxHeartbeats 4000000
namespace Y
open PySem PySem.Spec PyProof.Rows L2
variable [Tabs]
/-! ### a comprehension over triples -/
section
variable {X : Cx} {ρ : List (Option D)} {m m1 : Bool} {ds : List D} {pos : Pos}
end
end Y
set_option Elab.async false
set_option linter.all false
set_option autoImplicit false
set_option maxRecDepth 100000
set_option maxHeartbeats 400000
/-! papers: contracts -/
namespace Y
open PySem PySem.Spec PyProof.Rows L2
/-- the price of the step that ends at the last rows -/
def priceE (ls rs : List (List Str)) (prices : List Int) (ps : List (Str × Str)) : Nat → Nat → Nat × Nat → Int := fun l r p => stepP ((ls.take l).drop (l - p.1)) ((rs.take r).drop (r - p.2)) prices ps
structure PaOk (ls rs : List (List Str)) (prices : List Int) (ps : List (Str × Str)) : Prop where
  tl : tot ls ≤ 100
  tr : tot rs ≤ 100
  pr : prices.length = 5
  pp : ps.length ≤ 900
/-- the table has what the entry for l and r rows asks for -/
def TabHas (T : List (List (Int × Int))) (tab : Nat → Nat → Int × Int) (l r : Nat) : Prop := ∀ i j, i ≤ l → j ≤ r → i + j < l + r → ∃ row, T[i]? = some row ∧ row[j]? = some (tab i j)
theorem stepsP_L {p : Nat × Nat} (h : p ∈ stepsP) : p ∈ stepsL := by
  simp only [stepsP, List.mem_cons, List.not_mem_nil, or_false] at h
  rcases h with rfl | rfl | rfl | rfl | rfl <;> decide
end Y
set_option Elab.async false
set_option linter.all false
set_option autoImplicit false
set_option maxRecDepth 100000
set_option maxHeartbeats 400000
/-! papers: the whole table over plain data -/
namespace Y
open PySem PySem.Spec PyProof.Rows L2
section
variable (price : Nat → Nat → Nat × Nat → Int)
def tabN : Nat → Nat → Nat → Int × Int
  | 0, _, _ => (0, 0)
  | k + 1, l, r => entryM price (tabN k) l r
/-- what the place for l and r rows holds -/
def tabM (l r : Nat) : Int × Int := tabN price (l + r + 1) l r
theorem tabN_same : ∀ {k k' l r : Nat}, l + r < k → l + r < k' → tabN price k l r = tabN price k' l r
  | 0, _, _, _, h, _ => by omega
  | _ + 1, 0, _, _, _, h => by omega
  | k + 1, k' + 1, l, r, h, h' => entry_congr price fun i j hi hj hs => tabN_same (by omega) (by omega)
theorem tabM_eq (l r : Nat) : tabM price l r = entryM price (tabM price) l r :=
  entry_congr price fun i j hi hj hs => tabN_same price (by omega) (by omega)
/-- the first n rows of the table for texts of R rows on the right -/
def rowsT (R n : Nat) : List (List (Int × Int)) := (List.range n).map fun i => (List.range (R + 1)).map (tabM price i)
end
end Y
set_option Elab.async false
set_option linter.all false
set_option autoImplicit false
set_option maxRecDepth 100000
set_option maxHeartbeats 400000
/-! papers: the law's field, a running least and how many have it -/
namespace Y
open PySem PySem.Spec PyProof.Rows L2
def noneD : Option Int → D
  | none => .non
  | some i => .int i
section
variable [Tabs] {X : Cx} {ρ : List (Option D)} {m1 m2 : Bool} {a b : Expr} {pos : Pos}
/-- `.. is None`, of None or an int -/
theorem t_isN {o : Option Int} (ha : E X m1 ρ a (noneD o)) (hb : E X m2 ρ b .non) : T X ρ (.Compare a [.Is] [b] pos) o.isNone :=
  t_cmp op_isN ha hb (fun x y H Z Q _ i1 i2 k => ⟨in_non.mp i2, by
    cases o with
    | none => cases in_non.mp i1; exact k _ (Same.refl H)
    | some i => cases in_int.mp i1; exact k _ (Same.refl H)⟩) (nobehind _ (by decide) (by decide))
end
end Y
set_option Elab.async false
set_option linter.all false
set_option autoImplicit false
set_option maxRecDepth 100000
set_option maxHeartbeats 400000
/-! papers: contracts of the law's defs -/
namespace Y
open PySem PySem.Spec PyProof.Rows L2
end Y
set_option Elab.async false
set_option linter.all false
set_option autoImplicit false
set_option maxRecDepth 100000
set_option maxHeartbeats 400000
/-! papers: the law's checker -/
namespace Y
open PySem PySem.Spec PyProof.Rows L2
theorem rowsT_get (price : Nat → Nat → Nat × Nat → Int) {R n i : Nat} (h : i < n) : (rowsT price R n)[i]? = some ((List.range (R + 1)).map (tabM price i)) := by simp [rowsT, h]
theorem rowT_get (price : Nat → Nat → Nat × Nat → Int) {R i j : Nat} (h : j < R + 1) : ((List.range (R + 1)).map (tabM price i))[j]? = some (tabM price i j) := by simp [h]
end Y
set_option Elab.async false
set_option linter.all false
set_option autoImplicit false
set_option maxRecDepth 100000
set_option maxHeartbeats 4000000
/-! what was told and is changed: a write by place, a pop -/
namespace Y
open PySem PySem.Spec PyProof.Rows L2
variable [Tabs]
section
variable {X : Cx} {F : Fn} {ρ : Rho} {Q : EndD} {rest : List Stmt} {e o ix : Expr} {d : D} {pos p sp ap cp : Pos} {x : Str} {fr m1 mi : Bool}
end
end Y
set_option Elab.async false
set_option linter.all false
set_option autoImplicit false
set_option maxRecDepth 100000
set_option maxHeartbeats 4000000
/-! an own list of lists, written by two places; two names out of a pair -/
namespace Y
open PySem PySem.Spec PyProof.Rows L2
variable [Tabs]
section
variable {X : Cx} {F : Fn} {ρ : Rho} {Q : EndD} {rest : List Stmt} {e ix ix2 : Expr} {d : D} {pos p sp sp2 : Pos} {m1 mi mj : Bool}
end
end Y
set_option Elab.async false
set_option linter.all false
set_option autoImplicit false
set_option maxRecDepth 100000
set_option maxHeartbeats 400000
/-! the row of ends as places; the checker of ends -/
namespace Y
open PySem PySem.Spec PyProof.Rows L2
variable [Tabs]
end Y
set_option Elab.async false
set_option linter.all false
set_option autoImplicit false
set_option maxRecDepth 100000
set_option maxHeartbeats 400000
/-! k15: other places, other numbers -/
namespace Y
open PySem PySem.Spec PyProof.Rows L2
variable [Tabs]
section
variable {X : Cx} {F : Fn} {ρ : Rho} {Q : EndD} {rest : List Stmt} {e : Expr} {pos p : Pos}
end
end Y
set_option Elab.async false
set_option linter.all false
set_option autoImplicit false
set_option maxRecDepth 100000
set_option maxHeartbeats 400000
/-! k16: by definition; a law with a lambda of its own -/
namespace Y
open PySem PySem.Spec PyProof.Rows L2
variable [Tabs]
section
variable {P : Program} {w : World} {K : PySem.W.Frag} {mg : Str → Option Value} {base : Heap}
end
end Y
set_option Elab.async false
set_option linter.all false
set_option autoImplicit false
set_option maxRecDepth 100000
set_option maxHeartbeats 400000
/-! k14: in order, walked -/
namespace Y
open PySem PySem.Spec PyProof.Rows L2
variable [Tabs]
section
variable {X : Cx} {ρ : List (Option D)} {m1 m2 : Bool} {a b : Expr} {pos : Pos}
end
end Y
set_option Elab.async false
set_option linter.all false
set_option autoImplicit false
set_option maxRecDepth 100000
set_option maxHeartbeats 4000000
/-! name = [.. for ..] of new lists: a list of lists of its own -/
namespace Y
open PySem PySem.Spec PyProof.Rows L2
variable [Tabs]
section
variable {X : Cx} {F : Fn} {ρ : Rho} {Q : EndD} {rest : List Stmt} {pos p cpos : Pos} {m1 : Bool} {ds : List D}
end
end Y
set_option Elab.async false
set_option linter.all false
set_option autoImplicit false
set_option maxRecDepth 100000
set_option maxHeartbeats 400000
/-! k54: whole tables, and tables bent -/
namespace Y
open PySem PySem.Spec PyProof.Rows L2
variable [Tabs]
abbrev Tbl := List (List (Int × Int))
def atT (T : Tbl) (i j : Nat) : Int × Int := (T.getD i []).getD j (0, 0)
structure FullT (T : Tbl) (L R : Nat) : Prop where
  len : T.length = L + 1
  row : ∀ r ∈ T, r.length = R + 1
theorem FullT.get {T : Tbl} {L R i : Nat} (h : FullT T L R) (hi : i ≤ L) : T[i]? = some (T.getD i []) := by
  have : i < T.length := by have := h.len; omega
  simp [this]
theorem FullT.rlen {T : Tbl} {L R i : Nat} (h : FullT T L R) (hi : i ≤ L) : (T.getD i []).length = R + 1 := h.row _ (List.mem_of_getElem? (h.get hi))
theorem FullT.at' {T : Tbl} {L R i j : Nat} (h : FullT T L R) (hi : i ≤ L) (hj : j ≤ R) : (T.getD i [])[j]? = some (atT T i j) := by
  have := h.rlen hi
  have : j < (T.getD i []).length := by omega
  rw [List.getElem?_eq_getElem this]
  unfold atT
  congr 1
  rw [List.getD_eq_getElem?_getD (l := T.getD i []), List.getElem?_eq_getElem this]
  rfl
theorem FullT.has {T : Tbl} {L R i j : Nat} (h : FullT T L R) (hi : i ≤ L) (hj : j ≤ R) : TabHas T (atT T) i j := fun a b ha hb _ => ⟨_, h.get (by omega), h.at' (by omega) (by omega)⟩
theorem rowsT_at (price : Nat → Nat → Nat × Nat → Int) {L R i j : Nat} (hi : i ≤ L) (hj : j ≤ R) : atT (rowsT price R (L + 1)) i j = tabM price i j := by
  have hi : i < L + 1 := by omega
  have hj : j < R + 1 := by omega
  simp [atT, rowsT, hi, hj]
/-- a table is the paper if each place goes with those ahead of it -/
theorem FullT.is {T : Tbl} {L R : Nat} (h : FullT T L R) (price : Nat → Nat → Nat × Nat → Int) : T = rowsT price R (L + 1) ↔ ∀ i, i ≤ L → ∀ j, j ≤ R → atT T i j = entryM price (atT T) i j := by
  constructor
  · intro e i hi j hj
    have : ∀ a b, a ≤ i → b ≤ j → a + b < i + j → tabM price a b = atT T a b := fun a b ha hb _ => by rw [e]; exact (rowsT_at price (by omega) (by omega)).symm
    rw [← entry_congr price this, ← tabM_eq, e]
    exact rowsT_at price hi hj
  · intro all
    have same : ∀ n i j, i + j ≤ n → i ≤ L → j ≤ R → atT T i j = tabM price i j := by
      intro n
      induction n with
      | zero =>
        intro i j hn hi hj
        rw [all i hi j hj, tabM_eq]
        exact entry_congr price fun a b ha hb hs => by omega
      | succ n ih =>
        intro i j hn hi hj
        rw [all i hi j hj, tabM_eq]
        exact entry_congr price fun a b ha hb hs => ih a b (by omega) (by omega) (by omega)
    refine List.ext_getElem? fun i => ?_
    by_cases hi : i ≤ L
    · rw [h.get hi, rowsT_get price (by omega)]
      congr 1
      refine List.ext_getElem? fun j => ?_
      by_cases hj : j ≤ R
      · rw [h.at' hi hj, rowT_get price (by omega), same (i + j) i j (Nat.le_refl _) hi hj]
      · rw [List.getElem?_eq_none (by rw [h.rlen hi]; omega), List.getElem?_eq_none (by simp; omega)]
    · rw [List.getElem?_eq_none (by rw [h.len]; omega), List.getElem?_eq_none (by simp [rowsT]; omega)]
/-! ### one place is bent -/
end Y
set_option Elab.async false
set_option linter.all false
set_option autoImplicit false
set_option maxRecDepth 100000
set_option maxHeartbeats 400000
/-! k54, more -/
namespace Y
open PySem PySem.Spec PyProof.Rows L2
variable [Tabs]
end Y
set_option Elab.async false
set_option linter.all false
set_option autoImplicit false
set_option maxRecDepth 100000
set_option maxHeartbeats 4000000
/-! min(a, key=lambda ..), the keys ints -/
namespace Y
open PySem PySem.Spec PyProof.Rows L2
variable [Tabs]
/-- the first of the least -/
def Lst1 (kf : Nat → Int) (n b : Nat) : Prop := b < n ∧ ∀ j, j < n → kf b ≤ kf j ∧ (j < b → kf b < kf j)
theorem Lst1.one (kf : Nat → Int) : Lst1 kf 1 0 := ⟨by omega, fun j hj => by
  obtain rfl : j = 0 := by omega
  exact ⟨Int.le_refl _, fun z => absurd z (Nat.lt_irrefl _)⟩⟩
theorem Lst1.take {kf : Nat → Int} {n b : Nat} (h : Lst1 kf n b) (q : kf n < kf b) : Lst1 kf (n + 1) n := ⟨by omega, fun j hj => by
  by_cases e : j = n
  · subst e
    exact ⟨Int.le_refl _, fun z => absurd z (Nat.lt_irrefl _)⟩
  · have := (h.2 j (by omega)).1
    exact ⟨by omega, fun _ => by omega⟩⟩
theorem Lst1.keep {kf : Nat → Int} {n b : Nat} (h : Lst1 kf n b) (q : ¬ kf n < kf b) : Lst1 kf (n + 1) b := ⟨by have := h.1; omega, fun j hj => by
  by_cases e : j = n
  · subst e
    exact ⟨by omega, fun z => by have := h.1; omega⟩
  · exact h.2 j (by omega)⟩
section
variable {X : Cx} {pins : List (Addr × Obj)} {σ : St} {H : Hp} {Z : Zone} {A : Around} {P0 : D → Prop} {f : D → D} {fa l It S : Addr} {Good : Hp → Zone → Prop} {ds : List D} {xs : List V} {kf : Nat → Int} {R : Result → Shared → Prop}
/-- what is known ahead of the item i -/
structure MinAt (X : Cx) (pins : List (Addr × Obj)) (σ : St) (H : Hp) (Z : Zone) (Good : Hp → Zone → Prop) (l It S : Addr) (st : Shared) (H' : Hp) (i : Nat) (best : List V) : Prop where
  inv : Inv X pins σ H' st
  same : Same H H'
  atS : H' S = some (.lst best)
  good : Good H' ⟨Z.m, fun b => Z.S b ∧ b ≠ S⟩
  fp : FpOk X pins H' It
  it : st.heap.IsListIter It l i
end
section
variable {X : Cx} {ρ : List (Option D)} {m m1 mb : Bool} {a : Expr} {ds : List D} {p pos lpos kp : Pos} {P0 : D → Prop} {c Pt : Addr} {qn pn : Str} {params : Arguments} {body : Expr} {scope : Scope} {clos : List (Str × Addr)} {caps : List (Str × Nat)} {g : D → D} {kf : Nat → Int}
end
end Y
set_option Elab.async false
set_option linter.all false
set_option autoImplicit false
set_option maxRecDepth 100000
set_option maxHeartbeats 4000000
/-! list(reversed(a)) -/
namespace Y
open PySem PySem.Spec PyProof.Rows L2
namespace Rv
theorem mro : mroOf (.type "reversed") = pure [.type "reversed", .type "object"] := by rw [mroOf_type]; kernel_rfl
theorem lookup_new : typeLookup (.type "reversed") "__new__" = pure (some (.builtin "reversed.__new__")) := by rw [typeLookup_type, builtinLookup_eq_fast]; kernel_rfl
theorem made : Bind.madeBy (.type "reversed") = pure (some "reversed.__new__") := madeBy_type mro lookup_new (by decide +kernel)
theorem other : isSubtype (.type "list_reverseiterator") (.type "reversed") = pure false := by rw [isSubtype_type]; kernel_rfl
end Rv
namespace Rv
end Rv
end Y
set_option Elab.async false
set_option linter.all false
set_option autoImplicit false
set_option maxRecDepth 100000
set_option maxHeartbeats 4000000
/-! list(reversed(a)): the walk -/
namespace Y
open PySem PySem.Spec PyProof.Rows L2
def IsRev (h : Heap) (it l : Addr) (i : Int) : Prop := ∃ dd sl, h.get? it = some ⟨.type "list_reverseiterator", dd, .fields #[.ref l, rawInt i], sl⟩
theorem IsRev.ty {s : Shared} {it l : Addr} {i : Int} (h : IsRev s.heap it l i) : s.TypeIs (.ref it) "list_reverseiterator" := let ⟨_, _, e⟩ := h; ⟨_, e, rfl⟩
section
variable {prog : Program} {w : World} {A : Around} {E : Value → Shared → Prop} {s : Shared} {it l : Addr} {items : Array Value}
end
end Y
set_option Elab.async false
set_option linter.all false
set_option autoImplicit false
set_option maxRecDepth 100000
set_option maxHeartbeats 4000000
/-! list(reversed(a)): the list -/
namespace Y
open PySem PySem.Spec PyProof.Rows L2 PySem.SeqAt
section
variable {prog : Program} {w : World} {A : Around} {E : Value → Shared → Prop} {s : Shared} {it l S : Addr} {items : Array Value}
end
section
variable [Tabs] {X : Cx} {ρ : List (Option D)} {m m1 : Bool} {a : Expr} {ds : List D} {p p2 pos pos2 : Pos}
end
end Y
set_option Elab.async false
set_option linter.all false
set_option autoImplicit false
set_option maxRecDepth 100000
set_option maxHeartbeats 400000
/-! k55: a cheapest way -/
namespace Y
open PySem PySem.Spec PyProof.Rows L2
variable [Tabs]
/-! ### back from the end -/
section
variable (price : Nat → Nat → Nat × Nat → Int)
/-- what steps from (i, j) on cost -/
def costP : Nat → Nat → List (Nat × Nat) → Int
  | _, _, [] => 0
  | i, j, p :: r => price (i + p.1) (j + p.2) p + costP (i + p.1) (j + p.2) r
theorem costP_snoc : ∀ (st : List (Nat × Nat)) (i j : Nat) (p : Nat × Nat), costP price i j (st ++ [p]) = costP price i j st + price (i + sum1 st + p.1) (j + sum2 st + p.2) p
  | [], i, j, p => by simp [costP, sum1, sum2]
  | q :: st, i, j, p => by
    rw [List.cons_append, costP, costP_snoc st, costP]
    have e1 : i + sum1 (q :: st) = i + q.1 + sum1 st := by simp [sum1]; omega
    have e2 : j + sum2 (q :: st) = j + q.2 + sum2 st := by simp [sum2]; omega
    rw [e1, e2]
    omega
end
/-- the steps take just all rows -/
structure IsWay (L R : Nat) (st : List (Nat × Nat)) : Prop where
  ok : ∀ p ∈ st, p ∈ stepsP
  s1 : sum1 st = L
  s2 : sum2 st = R
end Y
namespace Y
open PySem PySem.Spec PyProof.Rows L2
variable [Tabs]
end Y
set_option Elab.async false
set_option linter.all false
set_option autoImplicit false
set_option maxRecDepth 100000
set_option maxHeartbeats 4000000
/-! k55: a step in the steps; a for over tuples of the module; ways and what they cost -/
namespace Y
open PySem PySem.Spec PyProof.Rows L2
variable [Tabs]
section
variable {X : Cx} {ρ : List (Option D)} {m1 : Bool} {e : Expr} {p pos : Pos} {x : Str} {a : Addr} {kvs : List (List Key × Int)}
end
section
variable {X : Cx} {F : Fn} {ρ : Rho} {Q : EndD} {rest body : List Stmt} {pos : Pos}
/-- a tuple of two, of the module or not -/
def twoD (d : D) (n1 n2 : Int) : Prop := d = .tup [.int n1, .int n2] ∨ d = .ktup [.inl n1, .inl n2]
theorem twoD.open {K : PySem.W.Frag} {H : Hp} {Z : Zone} {d : D} {n1 n2 : Int} {v : V} (t : twoD d n1 n2) (h : In K H Z d v) : ∃ a, v = .ref a ∧ SqT K H a [.int n1, .int n2] := by
  rcases t with rfl | rfl
  · obtain ⟨a, xs, rfl, s, j⟩ := in_tupS h
    obtain ⟨v1, r1, rfl, i1, j1⟩ := ins_cons.mp j
    obtain ⟨v2, r2, rfl, i2, j2⟩ := ins_cons.mp j1
    cases ins_nil.mp j2
    obtain rfl := in_int.mp i1
    obtain rfl := in_int.mp i2
    exact ⟨a, rfl, s⟩
  · obtain ⟨a, rfl, k⟩ := in_ktup.mp h
    exact ⟨a, rfl, k.sq⟩
def g2 : D → Int × Int
  | .tup [.int a, .int b] => (a, b)
  | .ktup [.inl a, .inl b] => (a, b)
  | _ => (0, 0)
theorem twoD.g2 {d : D} {n1 n2 : Int} (t : twoD d n1 n2) : g2 d = (n1, n2) := by
  rcases t with rfl | rfl <;> rfl
/-- for x, y in .. over tuples of two ints -/
theorem sd_for2I (k l : Nat) (fr : Bool) {x y : Str} {px py pt : Pos} {kt : Nat} {iter : Expr} {ds : List D} {mi : Bool} (P : Nat → Rho → Prop) (hi : IT X (.Tuple [.Name x px, .Name y py] kt pt) mi (view false fr ρ) iter ds) (h0 : P 0 ρ)
    (hlen : ∀ n r, P n r → k < r.length ∧ l < r.length) (hpair : ∀ d ∈ ds, ∃ n1 n2, twoD d n1 n2)
    (hb : ∀ n d r, ds[n]? = some d → P n r → SD X F body ((r.set k (some (.pl true (.int (g2 d).1)))).set l (some (.pl true (.int (g2 d).2)))) { Q with nx := P (n + 1), ct := P (n + 1), bk := fun r => SD X F rest r Q }) (hd : ∀ r, P ds.length r → SD X F rest r Q)
    (hN : X.N.Nodup) (hx : X.N[k]? = some x := by rfl) (hy : X.N[l]? = some y := by rfl) (hxl : Loc X.env.scope x := by first | exact Or.inl rfl | exact Or.inr rfl) (hyl : Loc X.env.scope y := by first | exact Or.inl rfl | exact Or.inr rfl)
    (hf : X.fn x = true ∨ X.env.scope.names.lookup x = some .local := by first | exact .inl rfl | exact .inr rfl) (hf' : X.fn y = true ∨ X.env.scope.names.lookup y = some .local := by first | exact .inl rfl | exact .inr rfl) (hc : X.calm = true := by rfl)
    (hs : ∀ x, foldedSetIterable iter X.env x = pure x := by intro _; rfl) (hp : PassesOwn (model X.prog X.w) X.A X.env X.xe := by exact PassesOwn.never)
    (hes : (assignEach [.Name x px, .Name y py] X.env).map (·.2) = [assign (.Name x px) X.env, assign (.Name y py) X.env] := by rfl) (hes2 : (assignEach [.Name y py] X.env).map (·.2) = [assign (.Name y py) X.env] := by rfl)
    (hen : (assignEach [.Name x px, .Name y py] X.env).length = 2 := by rfl) (hst : (assignEach [.Name x px, .Name y py] X.env).findIdx? (·.1) = none := by rfl) : SD X F (.For (.Tuple [.Name x px, .Name y py] kt pt) iter body [] pos :: rest) ρ Q := by
  refine sd_forG (g := gTup X.K 2 (gCons (gName k) (gCons (gName l) gNil))) fr (fun d r => (r.set k (some (.pl true (.int (g2 d).1)))).set l (some (.pl true (.int (g2 d).2)))) P hi h0
    (pg_tup hc (pgs_cons (pg_name hN hx hxl hf) (pgs_cons (pg_name hN hy hyl hf') pgs_nil (by rw [hes2]; rfl)) (by rw [hes, hes2])) hen hst) (fun n d r hv hρ σ H H1 A v q e pr hl S s i h => ?_) hb hd hc hs hp
  obtain ⟨n1, n2, t⟩ := hpair d (List.mem_of_getElem? e)
  rw [t.g2] at h
  obtain ⟨a, rfl, sq⟩ := t.open i
  refine ⟨a, _, rfl, sq, rfl, .int n1, _, rfl, .int n2, _, rfl, rfl, h _ _ ?_⟩
  exact put_pl (by simp [hl]) (put_plA (fr := true) hl S (hlen n r pr).1 s (in_int.mpr rfl)) (by simpa using (hlen n r pr).2) (Same.refl _) (in_int.mpr rfl)
end
/-! ### ways -/
theorem sum1_take (st : List (Nat × Nat)) (n : Nat) : sum1 (st.take n) ≤ sum1 st := by
  conv => rhs; rw [← List.take_append_drop n st]
  unfold sum1
  rw [List.map_append, List.sum_append]
  omega
theorem sum2_take (st : List (Nat × Nat)) (n : Nat) : sum2 (st.take n) ≤ sum2 st := by
  conv => rhs; rw [← List.take_append_drop n st]
  unfold sum2
  rw [List.map_append, List.sum_append]
  omega
/-- the price of a step from (i, j) on -/
theorem price_from {ls rs : List (List Str)} {prices : List Int} {ps : List (Str × Str)} {i j : Nat} {p : Nat × Nat} : priceE ls rs prices ps (i + p.1) (j + p.2) p = stepP ((ls.drop i).take p.1) ((rs.drop j).take p.2) prices ps := by
  unfold priceE
  rw [Nat.add_sub_cancel, Nat.add_sub_cancel, List.drop_take, List.drop_take, Nat.add_sub_cancel_left, Nat.add_sub_cancel_left]
theorem step_ok {ls rs : List (List Str)} {prices : List Int} {ps : List (Str × Str)} {i j : Nat} {p : Nat × Nat} (ok : PaOk ls rs prices ps) (hp : p ∈ stepsP) (h1 : i + p.1 ≤ ls.length) (h2 : j + p.2 ≤ rs.length) : PrOk ((ls.drop i).take p.1) ((rs.drop j).take p.2) prices ps := by
  refine ⟨Nat.le_trans (tot_take_le _ _) (Nat.le_trans (tot_drop_le _ _) ok.tl), Nat.le_trans (tot_take_le _ _) (Nat.le_trans (tot_drop_le _ _) ok.tr), ok.pr, ok.pp, ?_⟩
  have e1 : ((ls.drop i).take p.1).length = p.1 := by rw [List.length_take, List.length_drop]; omega
  have e2 : ((rs.drop j).take p.2).length = p.2 := by rw [List.length_take, List.length_drop]; omega
  rw [e1, e2]
  exact stepsP_L hp
/-- the way up to its step n -/
theorem way_at {L R : Nat} {st : List (Nat × Nat)} (h : IsWay L R st) {n : Nat} {p : Nat × Nat} (e : st[n]? = some p) : p ∈ stepsP ∧ sum1 (st.take n) + p.1 ≤ L ∧ sum2 (st.take n) + p.2 ≤ R ∧ st.take (n + 1) = st.take n ++ [p] := by
  have ht : st.take (n + 1) = st.take n ++ [p] := by rw [List.take_add_one, e]; rfl
  have h1 := sum1_take st (n + 1)
  have h2 := sum2_take st (n + 1)
  rw [ht, sum1_snoc, h.s1] at h1
  rw [ht, sum2_snoc, h.s2] at h2
  exact ⟨h.ok p (List.mem_of_getElem? e), h1, h2, ht⟩
end Y
set_option Elab.async false
set_option linter.all false
set_option autoImplicit false
set_option maxRecDepth 100000
set_option maxHeartbeats 400000
/-! k55: drawn ways, step by step as they fit -/
namespace Y
open PySem PySem.Spec PyProof.Rows L2
variable [Tabs]
structure WayV (m o n : Nat) (w : WSt) : Prop where
  s1 : w.i = sum1 w.st
  s2 : w.j = sum2 w.st
  l1 : w.i ≤ m
  l2 : w.j ≤ o
  ln : w.st.length ≤ n
  ok : ∀ s ∈ w.st, s ∈ stepsP
  go : n ≤ w.i + w.j ∨ (w.i = m ∧ w.j = o)
section
variable {X : Cx} {ρ : List (Option D)} {m1 : Bool} {a : Expr} {p p2 pos : Pos}
end
end Y
set_option Elab.async false
set_option linter.all false
set_option autoImplicit false
set_option maxRecDepth 100000
set_option maxHeartbeats 4000000
/-! k56: own lists whose items hold lists; x in a list -/
namespace Y
open PySem PySem.Spec PyProof.Rows L2
variable [Tabs]
section
variable {X : Cx} {ρ : List (Option D)} {m1 m2 : Bool} {e f : Expr} {d : D} {pos : Pos}
theorem e_inD {ds : List D} (ha : E X m1 ρ e d) (hb : E X m2 ρ f (.lst ds)) (hu : X.A.units + 1 + deps ds < cLine) (hm : behindInMarks .In f = false := by rfl) : E X true ρ (.Compare e [.In] [f] pos) (.bl (ds.any fun e => deq e d)) :=
  e_cmp op_inD ha hb (fun x y H Z Q _ i1 i2 k => ⟨_, _, _, _, i1, i2, hu, k _ _ (Same.refl H) (in_bl.mpr rfl)⟩) hm
end
section
variable {X : Cx} {F : Fn} {ρ : Rho} {Q : EndD} {rest : List Stmt} {e ix : Expr} {pos p sp : Pos} {m1 mi : Bool}
end
/-! ### all ways, one by one -/
abbrev Way := Int × List (Nat × Nat)
section
variable (price : Nat → Nat → Nat × Nat → Int)
/-- the least and how many have it -/
structure LeastOf (W : List Way) (x : Int × Int) : Prop where
  mem : ∃ w ∈ W, w.1 = x.1
  le : ∀ w ∈ W, x.1 ≤ w.1
  many : (((W.filter fun w => decide (w.1 = x.1)).length : Nat) : Int) = x.2
end
end Y
set_option Elab.async false
set_option linter.all false
set_option autoImplicit false
set_option maxRecDepth 100000
set_option maxHeartbeats 400000
/-! k52: steps that may be none -/
namespace Y
open PySem PySem.Spec PyProof.Rows L2
variable [Tabs]
def plZ (p : Int × Int) : D := .tup [.int p.1, .int p.2]
def plsZ (zs : List (Int × Int)) : D := .lst (zs.map plZ)
def castZ (p : Nat × Nat) : Int × Int := (p.1, p.2)
def toN (z : Int × Int) : Nat × Nat := (z.1.toNat, z.2.toNat)
def stepsZ : List (Int × Int) := [(1, 1), (1, 2), (2, 1), (1, 0), (0, 1)]
def s1Z (zs : List (Int × Int)) : Int := (zs.map (·.1)).sum
def s2Z (zs : List (Int × Int)) : Int := (zs.map (·.2)).sum
def isWayZ (L R : Nat) (zs : List (Int × Int)) : Bool := (zs.all fun z => decide (z ∈ stepsZ)) && decide (s1Z zs = (L : Int) ∧ s2Z zs = (R : Int))
theorem stepsZ_N {z : Int × Int} (h : z ∈ stepsZ) : toN z ∈ stepsP ∧ castZ (toN z) = z := by
  simp only [stepsZ, List.mem_cons, List.not_mem_nil, or_false] at h
  rcases h with rfl | rfl | rfl | rfl | rfl <;> decide
theorem castN : ∀ {zs : List (Int × Int)}, (∀ z ∈ zs, z ∈ stepsZ) → (zs.map toN).map castZ = zs ∧ (∀ p ∈ zs.map toN, p ∈ stepsP) ∧ ((sum1 (zs.map toN) : Nat) : Int) = s1Z zs ∧ ((sum2 (zs.map toN) : Nat) : Int) = s2Z zs
  | [], _ => ⟨rfl, by simp, rfl, rfl⟩
  | z :: zs, h => by
    obtain ⟨h1, h2, h3, h4⟩ := castN (zs := zs) fun z hz => h z (List.mem_cons_of_mem _ hz)
    obtain ⟨g1, g2⟩ := stepsZ_N (h z List.mem_cons_self)
    have e1 : ((toN z).1 : Int) = z.1 := congrArg Prod.fst g2
    have e2 : ((toN z).2 : Int) = z.2 := congrArg Prod.snd g2
    refine ⟨by rw [List.map_cons, List.map_cons, g2, h1], fun p hp => ?_, ?_, ?_⟩
    · rcases List.mem_cons.mp hp with rfl | hp
      · exact g1
      · exact h2 p hp
    · unfold sum1 s1Z at *
      rw [List.map_cons, List.map_cons, List.map_cons, List.sum_cons, List.sum_cons, Int.natCast_add, h3, e1]
    · unfold sum2 s2Z at *
      rw [List.map_cons, List.map_cons, List.map_cons, List.sum_cons, List.sum_cons, Int.natCast_add, h4, e2]
theorem isWayZ_way {L R : Nat} {zs : List (Int × Int)} (h : isWayZ L R zs = true) : IsWay L R (zs.map toN) ∧ (zs.map toN).map castZ = zs := by
  unfold isWayZ at h
  rw [Bool.and_eq_true, List.all_eq_true, decide_eq_true_eq] at h
  obtain ⟨h1, h2, h3, h4⟩ := castN (zs := zs) fun z hz => of_decide_eq_true (h.1 z hz)
  exact ⟨⟨h2, by omega, by omega⟩, h1⟩
theorem nnZ {z : Int × Int} (h : z ∈ stepsZ) : 0 ≤ z.1 ∧ 0 ≤ z.2 := by
  simp only [stepsZ, List.mem_cons, List.not_mem_nil, or_false] at h
  rcases h with rfl | rfl | rfl | rfl | rfl <;> decide
theorem sumZ_nn : ∀ {zs : List (Int × Int)}, (∀ z ∈ zs, z ∈ stepsZ) → 0 ≤ s1Z zs ∧ 0 ≤ s2Z zs
  | [], _ => ⟨Int.le_refl 0, Int.le_refl 0⟩
  | z :: zs, h => by
    have h1 := sumZ_nn (zs := zs) fun z hz => h z (List.mem_cons_of_mem _ hz)
    have h2 := nnZ (h z List.mem_cons_self)
    unfold s1Z s2Z at *
    rw [List.map_cons, List.map_cons, List.sum_cons, List.sum_cons]
    omega
theorem s1Z_app (a b : List (Int × Int)) : s1Z (a ++ b) = s1Z a + s1Z b := by unfold s1Z; rw [List.map_append, List.sum_append]
theorem s2Z_app (a b : List (Int × Int)) : s2Z (a ++ b) = s2Z a + s2Z b := by unfold s2Z; rw [List.map_append, List.sum_append]
/-- a part of a way is within it -/
theorem isWayZ_take {L R n : Nat} {zs : List (Int × Int)} (h : isWayZ L R zs = true) : s1Z (zs.take n) ≤ L ∧ s2Z (zs.take n) ≤ R := by
  unfold isWayZ at h
  rw [Bool.and_eq_true, List.all_eq_true, decide_eq_true_eq] at h
  have g := sumZ_nn (zs := zs.drop n) fun z hz => of_decide_eq_true (h.1 z (List.mem_of_mem_drop hz))
  have e1 : s1Z zs = s1Z (zs.take n) + s1Z (zs.drop n) := by rw [← s1Z_app, List.take_append_drop]
  have e2 : s2Z zs = s2Z (zs.take n) + s2Z (zs.drop n) := by rw [← s2Z_app, List.take_append_drop]
  omega
def dueZ (ls rs : List (List Str)) (prices : List Int) (ps : List (Str × Str)) (zs : List (Int × Int)) : Option Int := if isWayZ ls.length rs.length zs = true then some (costP (priceE ls rs prices ps) 0 0 (zs.map toN)) else none
def gIsWayZ (ds : List D) (d : D) : Prop := ∃ (ls rs : List (List Str)) (zs : List (Int × Int)), zs.length ≤ 900 ∧ ds = [rowsD ls, rowsD rs, plsZ zs] ∧ d = .bl (isWayZ ls.length rs.length zs)
structure WpZ (ls rs : List (List Str)) (prices : List Int) (ps : List (Str × Str)) (zs : List (Int × Int)) (ds : List D) : Prop where
  ok : PaOk ls rs prices ps
  ln : zs.length ≤ 900
  e : ds = [rowsD ls, rowsD rs, intsT prices, prsD ps, plsZ zs]
def gWayPriceZ (ds : List D) (d : D) : Prop := ∃ ls rs prices ps zs, WpZ ls rs prices ps zs ds ∧ isWayZ ls.length rs.length zs = true ∧ d = .int (costP (priceE ls rs prices ps) 0 0 (zs.map toN))
def rWayPriceZ (n : Addr) (ds : List D) (c : XD) : Prop := ∃ ls rs prices ps zs, WpZ ls rs prices ps zs ds ∧ isWayZ ls.length rs.length zs = false ∧ c = ⟨n, none⟩
def gDueZ (ds : List D) (d : D) : Prop := ∃ ls rs prices ps zs, WpZ ls rs prices ps zs ds ∧ d = noneD (dueZ ls rs prices ps zs)
def gRightZ (ds : List D) (d : D) : Prop := ∃ ls rs prices ps zs, WpZ ls rs prices ps zs ds ∧ d = .bl true
/-- the law's way -/
def stepC (m o : Nat) (cs : List Int) (k : Nat) (w : WSt) : WSt :=
  if fitS m o w.i w.j = [] then w
  else
    let s := (fitS m o w.i w.j).getD (part (cellAt cs k) 25 (fitS m o w.i w.j).length).toNat (0, 0)
    ⟨w.st ++ [s], w.i + s.1, w.j + s.2⟩
def wayC (m o : Nat) (cs : List Int) (n : Nat) : WSt := (List.range n).foldl (fun w k => stepC m o cs k w) ⟨[], 0, 0⟩
theorem wayC_succ (m o : Nat) (cs : List Int) (n : Nat) : wayC m o cs (n + 1) = stepC m o cs n (wayC m o cs n) := by
  unfold wayC
  rw [List.range_succ, List.foldl_append]
  rfl
theorem wayC_len (m o : Nat) (cs : List Int) : ∀ n, (wayC m o cs n).st.length ≤ n
  | 0 => Nat.le_refl 0
  | n + 1 => by
    have ih := wayC_len m o cs n
    rw [wayC_succ]
    unfold stepC
    split
    · omega
    · rw [List.length_append]
      simp
      omega
def gWayC (ds : List D) (d : D) : Prop := ∃ (ls rs : List (List Str)) (cs : List Int), ls.length ≤ 60 ∧ rs.length ≤ 60 ∧ cs.length ≤ 60 ∧ ds = [rowsD ls, rowsD rs, intsD cs] ∧ d = plsZ ((wayC ls.length rs.length cs 10).st.map castZ)
/-- .. spoiled -/
def spoilZ (zs : List (Int × Int)) (c : Int) : List (Int × Int) :=
  let n := (part c 26 ((zs.length : Nat) + 1)).toNat
  if part c 27 3 = 0 then zs.take n ++ zs.drop (n + 1)
  else if part c 27 3 = 1 then zs.take n ++ (zs.drop n).take 1 ++ zs.drop n
  else zs.take n ++ [(part c 28 5 - 1, part c 29 5 - 1)] ++ zs.drop (n + 1)
theorem spoilZ_len (zs : List (Int × Int)) (c : Int) : (spoilZ zs c).length ≤ zs.length + 1 := by
  have p0 := part_nn c 26 (show (0 : Int) < ((zs.length : Nat) : Int) + 1 by omega)
  have p9 := part_lt c 26 (show (0 : Int) < ((zs.length : Nat) : Int) + 1 by omega)
  unfold spoilZ
  dsimp only
  generalize part c 26 ((zs.length : Nat) + 1) = n at p0 p9
  split
  · simp; omega
  · split <;> (simp; omega)
def gSpoilZ (ds : List D) (d : D) : Prop := ∃ (zs : List (Int × Int)) (c : Int), zs.length ≤ 60 ∧ ds = [plsZ zs, .int c] ∧ d = plsZ (spoilZ zs c)
section
variable {X : Cx} {ρ : List (Option D)} {m1 : Bool} {e : Expr} {p pos : Pos} {x : Str} {a : Addr} {kvs : List (List Key × Int)}
theorem kd_none {xs : List (List Key × Addr × Value)} (q : Paired (fun p x => p.1 = x.1 ∧ ∃ t, x.2.2 = .int p.2 t) kvs xs) {k : List Key} (h : valI kvs k = none) : atKey xs k = none := by
  induction q with
  | nil => rfl
  | @cons p x ps xs' r t ih =>
    obtain ⟨e1, t0, e2⟩ := r
    by_cases hk : p.1 = k
    · have : valI (p :: ps) k = some p.2 := by simp [valI, List.find?_cons, hk]
      rw [this] at h
      cases h
    · have hr : valI (p :: ps) k = valI ps k := by simp [valI, List.find?_cons, hk]
      rw [hr] at h
      have hx : ¬ x.1 = k := by rw [← e1]; exact hk
      rw [← ih h]
      simp [atKey, List.find?_cons, hx]
theorem valZ (z : Int × Int) : (valI stepsK [.inl z.1, .inl z.2]).isSome = decide (z ∈ stepsZ) := by
  obtain ⟨i, j⟩ := z
  simp only [valI, stepsK, stepsZ, Option.isSome_map, List.find?_isSome]
  rw [Bool.eq_iff_iff]
  simp
  constructor
  · rintro (⟨a, b⟩ | ⟨a, b⟩ | ⟨a, b⟩ | ⟨a, b⟩ | ⟨a, b⟩) <;> simp [← a, ← b]
  · rintro (⟨a, b⟩ | ⟨a, b⟩ | ⟨a, b⟩ | ⟨a, b⟩ | ⟨a, b⟩) <;> simp [a, b]
/-- a tuple of two ints in the module's dict of steps -/
theorem e_inKZ {z : Int × Int} (hm : X.mg x = some (.ref a)) (kd : KD X.K X.prog X.w a stepsK) (ns : (a == sysModules) = false) (ha : E X m1 ρ e (plZ z)) (hu : X.A.units + 1 < cLine) (hg : Gl X x := by rfl) (hd : (x == ("__debug__" : Str)) = false := by decide) (hb : behindInMarks .In (.Name x p) = false := by rfl) :
    E X true ρ (.Compare e [.In] [.Name x p] pos) (.bl (decide (z ∈ stepsZ))) := by
  intro pins s σ H Q I ⟨Z, oz, en, k⟩
  refine wpAny_Compare1 (thn (ha pins s σ H (fun y H1 => Same H H1 ∧ In X.K H1 Z (plZ z) y) I ⟨Z, oz, en, fun y H1 s1 i1 => ⟨s1, i1.plain oz⟩⟩) fun u s1 ⟨y, H1, I1, ry, sm, iy⟩ => ?_) hb
  obtain ⟨b, rfl, kt⟩ := tup_key (ks := [.inl z.1, .inl z.2]) I1 iy ry
  refine thn (pe_glob (X := X) (v := .ref a) hg hm rfl hd pins s1 σ H1 (fun x H2 => x = .ref a ∧ H2 = H1) I1 ⟨rfl, rfl⟩) fun u2 s2 ⟨x, H2, I2, rx, ex, eh⟩ => ?_
  subst ex eh
  obtain rfl : u2 = Value.ref a := rx
  obtain ⟨xs, dd, q⟩ := kd.at I2
  obtain ⟨b2, e2, kt2⟩ := tup_key (ks := [.inl z.1, .inl z.2]) I2 iy ry
  cases e2
  refine wpAny_in_heap (tupleKind_room_in1 hu) kt2 ns dd ?_
  have fin : (atKey xs [.inl z.1, .inl z.2]).isSome = decide (z ∈ stepsZ) := by
    rw [← valZ]
    cases hv : valI stepsK [.inl z.1, .inl z.2] with
    | none => rw [kd_none q hv]; rfl
    | some v =>
      obtain ⟨pr, t, g1, g2⟩ := kd_find q hv
      rw [g1]
      rfl
  rw [fin]
  exact ⟨.bl _, H2, I2.tok _, rfl, k _ H2 sm (in_bl.mpr rfl)⟩
end
end Y
set_option Elab.async false
set_option linter.all false
set_option maxRecDepth 100000
set_option maxHeartbeats 4000000
namespace Z
open PySem PySem.Spec PyProof.Rows L2 Y
section
variable [Tabs]
def top (i : Nat) : Stmt := PySem.Challenge.pw_besidewords_k52_the_price_of_a_way.main.body.getD i (.Pass ⟨0, 0, 0, 0⟩)
abbrev s_way_price : Stmt := top 11
abbrev s_is_way : Stmt := top 12
abbrev s_by_pair : Stmt := top 13
abbrev s_step_price : Stmt := top 14
abbrev s_words_of : Stmt := top 15
abbrev s_lone_words : Stmt := top 16
abbrev s_law_cell_at : Stmt := top 18
abbrev s_law_part : Stmt := top 19
abbrev s_law_words : Stmt := top 20
abbrev s_law_pairs : Stmt := top 21
abbrev s_law_prices : Stmt := top 22
abbrev s_law_text : Stmt := top 23
abbrev s_law_lone : Stmt := top 24
abbrev s_law_step_price : Stmt := top 25
abbrev s_law_way : Stmt := top 26
abbrev s_law_spoiled : Stmt := top 27
abbrev s_law_due : Stmt := top 28
abbrev s_law_right : Stmt := top 29
abbrev s_law : Stmt := top 30
theorem sc_way_price : FnScope ["lefts", "rights", "prices", "pairs", "steps", "paired", "left", "right", "total", "step", "rows", "beside"] ["lefts", "rights", "prices", "pairs", "steps"] (defScope s_way_price) := ⟨rfl, rfl, rfl, by decide +kernel, rfl, by decide +kernel, by decide +kernel⟩
theorem sc_is_way : FnScope ["lefts", "rights", "steps", "taken"] ["lefts", "rights", "steps"] (defScope s_is_way) := ⟨rfl, rfl, rfl, by decide +kernel, rfl, by decide +kernel, by decide +kernel⟩
theorem sc_by_pair : FnScope ["pairs", "paired", "pair"] ["pairs"] (defScope s_by_pair) := ⟨rfl, rfl, rfl, by decide +kernel, rfl, by decide +kernel, by decide +kernel⟩
theorem sc_step_price : FnScope ["lefts", "rights", "prices", "paired", "left_words", "right_words", "fixed", "sloping"] ["lefts", "rights", "prices", "paired"] (defScope s_step_price) := ⟨rfl, rfl, rfl, by decide +kernel, rfl, by decide +kernel, by decide +kernel⟩
theorem sc_words_of : FnScope ["rows", "words", "row"] ["rows"] (defScope s_words_of) := ⟨rfl, rfl, rfl, by decide +kernel, rfl, by decide +kernel, by decide +kernel⟩
theorem sc_lone_words : FnScope ["lefts", "rights", "paired", "with_left", "with_right", "left", "right", "lone_lefts", "lone_rights"] ["lefts", "rights", "paired"] (defScope s_lone_words) := ⟨rfl, rfl, rfl, by decide +kernel, rfl, by decide +kernel, by decide +kernel⟩
theorem sc_law_cell_at : FnScope ["_law_script", "_law_k"] ["_law_script", "_law_k"] (defScope s_law_cell_at) := ⟨rfl, rfl, rfl, by decide +kernel, rfl, by decide +kernel, by decide +kernel⟩
theorem sc_law_part : FnScope ["_law_cell", "_law_k", "_law_many"] ["_law_cell", "_law_k", "_law_many"] (defScope s_law_part) := ⟨rfl, rfl, rfl, by decide +kernel, rfl, by decide +kernel, by decide +kernel⟩
theorem sc_law_words : FnScope ["_law_one", "_law_other", "_law_signs", "_law_size", "_law_at", "_law_words_here", "_law_k", "_law_word", "_law_j", "_law_number"] ["_law_one", "_law_other"] (defScope s_law_words) := ⟨rfl, rfl, rfl, by decide +kernel, rfl, by decide +kernel, by decide +kernel⟩
theorem sc_law_pairs : FnScope ["_law_lefts", "_law_rights", "_law_cell", "_law_pairs_here", "_law_k", "_law_left", "_law_right_here"] ["_law_lefts", "_law_rights", "_law_cell"] (defScope s_law_pairs) := ⟨rfl, rfl, rfl, by decide +kernel, rfl, by decide +kernel, by decide +kernel⟩
theorem sc_law_prices : FnScope ["_law_cell", "_law_great", "_law_some"] ["_law_cell"] (defScope s_law_prices) := ⟨rfl, rfl, rfl, by decide +kernel, rfl, by decide +kernel, by decide +kernel⟩
theorem sc_law_text : FnScope ["_law_words_here", "_law_cells", "_law_rows", "_law_cell", "_law_k"] ["_law_words_here", "_law_cells"] (defScope s_law_text) := ⟨rfl, rfl, rfl, by decide +kernel, rfl, by decide +kernel, by decide +kernel⟩
theorem sc_law_lone : FnScope ["_law_words_here", "_law_others", "_law_pairs_here", "_law_turned", "_law_many", "_law_word", "_law_goes", "_law_one", "_law_other"] ["_law_words_here", "_law_others", "_law_pairs_here", "_law_turned"] (defScope s_law_lone) := ⟨rfl, rfl, rfl, by decide +kernel, rfl, by decide +kernel, by decide +kernel⟩
theorem sc_law_step_price : FnScope ["_law_lefts", "_law_rights", "_law_prices_here", "_law_pairs_here", "_law_ours", "_law_row", "_law_others", "_law_total", "_law_lone_here"] ["_law_lefts", "_law_rights", "_law_prices_here", "_law_pairs_here"] (defScope s_law_step_price) := ⟨rfl, rfl, rfl, by decide +kernel, rfl, by decide +kernel, by decide +kernel⟩
theorem sc_law_way : FnScope ["_law_lefts", "_law_rights", "_law_cells", "_law_steps", "_law_i", "_law_j", "_law_k", "_law_fitting", "_law_step"] ["_law_lefts", "_law_rights", "_law_cells"] (defScope s_law_way) := ⟨rfl, rfl, rfl, by decide +kernel, rfl, by decide +kernel, by decide +kernel⟩
theorem sc_law_spoiled : FnScope ["_law_steps", "_law_cell", "_law_at", "_law_way_here"] ["_law_steps", "_law_cell"] (defScope s_law_spoiled) := ⟨rfl, rfl, rfl, by decide +kernel, rfl, by decide +kernel, by decide +kernel⟩
theorem sc_law_due : FnScope ["_law_lefts", "_law_rights", "_law_prices_here", "_law_pairs_here", "_law_steps", "_law_total", "_law_i", "_law_j", "_law_a", "_law_b"] ["_law_lefts", "_law_rights", "_law_prices_here", "_law_pairs_here", "_law_steps"] (defScope s_law_due) := ⟨rfl, rfl, rfl, by decide +kernel, rfl, by decide +kernel, by decide +kernel⟩
theorem sc_law_right : FnScope ["_law_lefts", "_law_rights", "_law_prices_here", "_law_pairs_here", "_law_steps", "_law_due_here", "_law_found", "_law_handed", "e", "_law_others"] ["_law_lefts", "_law_rights", "_law_prices_here", "_law_pairs_here", "_law_steps"] (defScope s_law_right) := ⟨rfl, rfl, rfl, by decide +kernel, rfl, by decide +kernel, by decide +kernel⟩
theorem sc_law : FnScope ["_law_script", "_law_some", "_law_others", "_law_pairs_here", "_law_prices_here", "_law_lefts", "_law_rights", "_law_steps", "_law_cell", "_law_spoiled_here"] ["_law_script"] (defScope s_law) := ⟨rfl, rfl, rfl, by decide +kernel, rfl, by decide +kernel, by decide +kernel⟩
abbrev pPart : List Str := ["_law_cell", "_law_k", "_law_many"]
structure Blt (mg : Str → Option Value) : Prop where
  ValueError : mg "ValueError" = none
  abs : mg "abs" = none
  all : mg "all" = none
  bool : mg "bool" = none
  int : mg "int" = none
  isinstance : mg "isinstance" = none
  len : mg "len" = none
  list : mg "list" = none
  max : mg "max" = none
  range : mg "range" = none
  sum : mg "sum" = none
  tuple : mg "tuple" = none
  SLOPE : ∃ t, mg "SLOPE" = some (.int 3 t)
  LONE : ∃ t, mg "LONE" = some (.int 4 t)
section
variable {P : Program} {w : World} {K : PySem.W.Frag} {mg : Str → Option Value} {base : Heap}
theorem ok_law_cell_at {f : Addr} {fd : FuncData} (Fx : Fun K "_law_cell_at" "_law_cell_at" s_law_cell_at f fd) (hmg : mg "_law_cell_at" = some (.ref f)) (hb : Binds K fd ["_law_script", "_law_k"] []) (B : Blt mg) : Def P w K mg base 1 "_law_cell_at" true gCellAt := by
  refine def_of Fx sc_law_cell_at hmg hb (fun ds d ⟨ns, k, hz, e1, e2⟩ => by subst e1; rfl) fun cdv A outer s H Ex Z ds d hr ⟨ns, k, hz, e1, e2⟩ => ?_
  subst e1 e2
  refine sd_if (t_ltI (e_var 1) (e_lenL (e_var 0) B.len)) (fun h => ?_) (fun h => ?_)
  · refine sd_ret false (m1 := true) (E.flat (e_ixL (d := .int (cellAt ns k)) (e_var 0) (e_var 1) ?_) rfl) rfl
    simp at h
    refine atI_nat ?_
    simp [cellAt, h]
  · refine sd_nil ?_
    refine sd_ret false (E.cast e_int ?_) rfl
    simp at h
    simp [cellAt, h]
theorem ok_law_part {f : Addr} {fd : FuncData} (Fx : Fun K "_law_part" "_law_part" s_law_part f fd) (hmg : mg "_law_part" = some (.ref f)) (hb : Binds K fd pPart []) (B : Blt mg) : Def P w K mg base 1 "_law_part" true gPart := by
  refine def_of Fx sc_law_part hmg hb (fun ds d ⟨c, k, m, hm, e1, e2⟩ => by subst e1; rfl) fun cdv A outer s H Ex Z ds d hr ⟨c, k, m, hm, e1, e2⟩ => ?_
  subst e1 e2
  have h1 := Int.emod_nonneg c (show (99991 : Int) ≠ 0 by decide)
  have h2 := Int.emod_lt_of_pos c (show (0 : Int) < 99991 by decide)
  have h3 := Int.emod_nonneg ((c % 99991 + 17) * (48271 + 7919 * k)) (show (65537 : Int) ≠ 0 by decide)
  have h4 := Int.emod_lt_of_pos ((c % 99991 + 17) * (48271 + 7919 * k)) (show (0 : Int) < 65537 by decide)
  exact sd_ret false (e_mod (e_mod (e_mul (e_mod (e_mul (e_add (e_mod (e_var 0) e_int (by decide)) e_int) (e_add e_int (e_mul e_int (e_var 1) (.inl ⟨by decide, by decide⟩))) (.inl ⟨by omega, by omega⟩)) e_int (by decide)) (e_add (e_var 1) e_int) (.inl ⟨by omega, by omega⟩)) e_int (by decide)) (e_var 2) hm) rfl
end

section
variable {P : Program} {w : World} {K : PySem.W.Frag} {mg : Str → Option Value} {base : Heap}
theorem ok_law_words {f : Addr} {fd : FuncData} (Fx : Fun K "_law_words" "_law_words" s_law_words f fd) (hmg : mg "_law_words" = some (.ref f)) (hb : Binds K fd ["_law_one", "_law_other"] []) (B : Blt mg) (dP : Def P w K mg base 1 "_law_part" true gPart) : Def P w K mg base 2 "_law_words" true gWordsA := by
  refine def_of Fx sc_law_words hmg hb (fun ds d ⟨one, other, e1, e2⟩ => by subst e1; rfl) fun cdv A outer s H Ex Z ds d hr ⟨one, other, e1, e2⟩ => ?_
  subst e1 e2
  have nd := sc_law_words.nd
  have hsz : 1 ≤ sizeA one := by have := part_nn one 0 (show (0 : Int) < 12 by decide); unfold sizeA; omega
  refine sd_setF 2 e_str rfl ?_ nd
  refine sd_setF 3 (d := .int (sizeA one)) (e_add e_int (e_call dP hr (ea_cons (e_var 0) (ea_cons e_int (ea_one e_int))) ⟨_, _, _, by decide, rfl, rfl⟩)) rfl ?_ nd
  refine sd_setF 4 (d := .int (atA one other)) (e_call dP hr (ea_cons (e_var 1) (ea_cons e_int (ea_one (e_var 3)))) ⟨_, _, _, by omega, rfl, rfl⟩) rfl ?_ nd
  refine sd_own 5 (e_lstN ea_nil) rfl ?_ nd
  refine sd_forF 6 (ds := rangeD 0 4) (fun n r => ∃ o6 o7 o8 o9, r = [some (.pl false (.int one)), some (.pl false (.int other)), some (.pl true (.str W36)), some (.pl true (.int (sizeA one))), some (.pl true (.int (atA one other))), some (.ow true (((List.range n).map fun k => takeA one other (0 + (k : Nat))).map D.str)), o6, o7, o8, o9] ∧ n ≤ 4)
    (it_range (n := 4) (m := true) e_int (by decide) (by decide) B.range) (fun d hd => by obtain ⟨i, _, rfl⟩ := List.mem_map.mp hd; rfl) ⟨_, _, _, _, rfl, by decide⟩ (fun n r ⟨_, _, _, _, e, _⟩ => by subst e; simp) (fun n d r hd ⟨o6, o7, o8, o9, e, hn⟩ => ?_) (fun r ⟨o6, o7, o8, o9, e, hn⟩ => ?_) nd
  · subst e
    obtain ⟨hn4, rfl⟩ := rangeD_get hd
    refine sd_setF 7 e_str rfl ?_ nd
    refine sd_forF 8 (ds := rangeD 0 12) (fun m r => ∃ o8 o9, r = [some (.pl false (.int one)), some (.pl false (.int other)), some (.pl true (.str W36)), some (.pl true (.int (sizeA one))), some (.pl true (.int (atA one other))), some (.ow true (((List.range n).map fun k => takeA one other (0 + (k : Nat))).map D.str)), some (.pl true (.int (0 + (n : Nat)))), some (.pl true (.str (wordA one other (0 + (n : Nat)) m))), o8, o9] ∧ m ≤ 12)
      (it_range (n := 12) (m := true) e_int (by decide) (by decide) B.range) (fun d hd => by obtain ⟨i, _, rfl⟩ := List.mem_map.mp hd; rfl) ⟨_, _, rfl, by decide⟩ (fun n r ⟨_, _, e, _⟩ => by subst e; simp) (fun m d r hd ⟨o8, o9, e, hm⟩ => ?_) (fun r ⟨o8, o9, e, hm⟩ => ?_) nd
    · subst e
      obtain ⟨hm12, rfl⟩ := rangeD_get hd
      refine sd_setF 9 (e_call dP hr (ea_cons (e_var 0) (ea_cons (e_add (e_var 8) e_int) (ea_one e_int))) ⟨_, _, _, by decide, rfl, rfl⟩) rfl ?_ nd
      have hlen := wordA_len one other (0 + (n : Nat)) m
      refine sd_ifJ [some (.pl false (.int one)), some (.pl false (.int other)), some (.pl true (.str W36)), some (.pl true (.int (sizeA one))), some (.pl true (.int (atA one other))), some (.ow true (((List.range n).map fun k => takeA one other (0 + (k : Nat))).map D.str)), some (.pl true (.int (0 + (n : Nat)))), some (.pl true (.str (wordA one other (0 + (n : Nat)) m))), some (.pl true (.int (0 + (m : Nat)))), some (.pl true (.int (numA one other (0 + (n : Nat)) (0 + (m : Nat)))))]
        (TW.t (tw_and (t_eqI (e_var 8) (e_var 4)) fun _ => tw_and1 (t_eqI (e_call dP hr (ea_cons (e_var 1) (ea_cons e_int (ea_one e_int))) ⟨_, _, _, by decide, rfl, rfl⟩) e_int))) (fun h => ?_) (fun h => ?_) ?_
      · refine sd_setF 9 (e_add (e_var 9) (e_var 6)) rfl ?_ nd
        refine sd_nil ?_
        simp at h
        unfold numA
        rw [if_pos (by simpa using h)]
        rfl
      · refine sd_nil ?_
        unfold numA
        rw [if_neg (by simpa using h)]
        rfl
      · refine sd_setF 7 (e_addS (e_var 7) (e_ixS (e_var 2) (e_mod (e_var 9) e_int (by decide)) (by decide +kernel) (atI_sgn _)) (smallL (by show _ + 1 ≤ 1000; omega))) rfl ?_ nd
        refine sd_nil ⟨some (.pl true (.int (0 + (m : Nat)))), some (.pl true (.int (numA one other (0 + (n : Nat)) (0 + (m : Nat))))), ?_, hm12⟩
        rw [wordA_succ]
        rfl
    · subst e
      have hlen := wordA_len one other (0 + (n : Nat)) (rangeD 0 12).length
      have h12 : (rangeD 0 12).length = 12 := rangeD_len
      rw [h12] at hlen
      have nx : ∀ (l : Int), l = (if part other 20 2 = 0 then sizeA one else 1 + (sizeA one + (0 + (n : Nat))) % 12) → ((List.range n).map fun k => takeA one other (0 + (k : Nat))).map D.str ++ [D.str (Txt.slice (wordA one other (0 + (n : Nat)) 12) none (some l))] = ((List.range (n + 1)).map fun k => takeA one other (0 + (k : Nat))).map D.str := fun l hl => by
        rw [List.range_succ, List.map_append, List.map_append, hl]; rfl
      refine sd_if (t_eqI (e_call dP hr (ea_cons (e_var 1) (ea_cons e_int (ea_one e_int))) ⟨_, _, _, by decide, rfl, rfl⟩) e_int) (fun h => ?_) (fun h => ?_)
      · refine sd_appendF 5 true rfl (e_slS (e_var 7) eo_none (eo_some (e_var 3)) (smallL (by rw [h12, hlen]; decide))) rfl (by simp; omega) ?_
        refine sd_nil (sd_nil ⟨some (.pl true (.int (0 + (n : Nat)))), some (.pl true (.str (wordA one other (0 + (n : Nat)) 12))), o8, o9, ?_, hn4⟩)
        rw [h12, ← nx _ (by simp at h; rw [if_pos h])]
        rfl
      · refine sd_appendF 5 true rfl (e_slS (e_var 7) eo_none (eo_some (e_add e_int (e_mod (e_add (e_var 3) (e_var 6)) e_int (by decide)))) (smallL (by rw [h12, hlen]; decide))) rfl (by simp; omega) ?_
        refine sd_nil (sd_nil ⟨some (.pl true (.int (0 + (n : Nat)))), some (.pl true (.str (wordA one other (0 + (n : Nat)) 12))), o8, o9, ?_, hn4⟩)
        rw [h12, ← nx _ (by simp at h; rw [if_neg h])]
        rfl
  · subst e
    have h4 : (rangeD 0 4).length = 4 := rangeD_len
    refine sd_ret true (E.cast (e_var 5) ?_) rfl
    rw [h4]
    rfl
end

section
variable {P : Program} {w : World} {K : PySem.W.Frag} {mg : Str → Option Value} {base : Heap}
theorem ok_by_pair {f : Addr} {fd : FuncData} (Fx : Fun K "by_pair" "by_pair" s_by_pair f fd) (hmg : mg "by_pair" = some (.ref f)) (hb : Binds K fd ["pairs"] []) (B : Blt mg) : Def P w K mg base 1 "by_pair" true gByPair := by
  refine def_of Fx sc_by_pair hmg hb (fun ds d ⟨ps, h1, e1, e2⟩ => by subst e1; rfl) fun cdv A outer s H Ex Z ds d hr ⟨ps, h1, e1, e2⟩ => ?_
  subst e1 e2
  have nd := sc_by_pair.nd
  refine sd_ownD 1 e_dnewT ?_ nd
  refine sd_forF 2 (ds := ps.map prD) (fun n r => ∃ o2, r = [some (.pl false (prsD ps)), some (.od (.t (pairedK (ps.take n)))), o2])
    (it_list (e_var 0)) (fun d hd => by obtain ⟨p, _, rfl⟩ := List.mem_map.mp hd; rfl) ⟨_, rfl⟩ (fun n r ⟨_, e⟩ => by subst e; simp) (fun n d r hd ⟨o2, e⟩ => ?_) (fun r ⟨o2, e⟩ => ?_) nd
  · subst e
    rw [List.getElem?_map] at hd
    cases hp : ps[n]? with
    | none => rw [hp] at hd; cases hd
    | some p =>
      rw [hp] at hd
      cases hd
      have hl := pairedK_len (ps.take n)
      refine sd_dput 1 (o' := .t (pairedK (ps.take n ++ [p]))) rfl (e_var 2) e_bl rfl (DO.put_t (prD_key p) (Nat.lt_of_le_of_lt hl (small1000 (by rw [List.length_take]; omega))) (by rw [pairedK_snoc])) (room1 hr) ?_
      refine sd_nil ⟨some (.pl true (prD p)), ?_⟩
      rw [List.take_add_one, hp]
      rfl
  · subst e
    refine sd_ret true (E.cast (e_var 1) ?_) rfl
    rw [List.length_map, List.take_length]
theorem ok_words_of {f : Addr} {fd : FuncData} (Fx : Fun K "words_of" "words_of" s_words_of f fd) (hmg : mg "words_of" = some (.ref f)) (hb : Binds K fd ["rows"] []) (B : Blt mg) : Def P w K mg base 1 "words_of" true gWordsOf := by
  refine def_of Fx sc_words_of hmg hb (fun ds d ⟨rows, h1, e1, e2⟩ => by subst e1; rfl) fun cdv A outer s H Ex Z ds d hr ⟨rows, h1, e1, e2⟩ => ?_
  subst e1 e2
  have nd := sc_words_of.nd
  refine sd_own 1 (e_lstN ea_nil) rfl ?_ nd
  refine sd_for 2 false (ds := rows.map strsD) (fun n r => ∃ o2, r = [some (.pl false (rowsD rows)), some (.ow true ((rows.take n).flatten.map D.str)), o2])
    (it_list (e_var 0)) ⟨_, rfl⟩ (fun n r ⟨_, e⟩ => by subst e; simp) (fun n d r hd ⟨o2, e⟩ => ?_) (fun r ⟨o2, e⟩ => ?_) nd
  · subst e
    rw [List.getElem?_map] at hd
    cases hp : rows[n]? with
    | none => rw [hp] at hd; cases hd
    | some row =>
      rw [hp] at hd
      cases hd
      have ht : rows.take (n + 1) = rows.take n ++ [row] := by rw [List.take_add_one, hp]; rfl
      have hle : (rows.take n).flatten.length + row.length ≤ 900 := by
        have := flatten_len rows
        have h2 : (rows.take (n + 1)).flatten.length ≤ rows.flatten.length := by
          conv => rhs; rw [← List.take_append_drop (n + 1) rows, List.flatten_append, List.length_append]
          omega
        rw [ht, List.flatten_append, List.length_append, show [row].flatten = row by simp] at h2
        omega
      refine sd_extendS 1 true rfl (e_var 2) (flats_strs _) (by rw [List.length_map, List.length_map]; exact smallL (by omega)) ?_
      refine sd_nil ⟨some (.pl false (strsD row)), ?_⟩
      rw [ht, List.flatten_append, List.map_append]
      simp [List.set]
  · subst e
    refine sd_ret true (E.cast (e_var 1) ?_) rfl
    rw [List.length_map, List.take_length]
    rfl
theorem ok_lone_words {f : Addr} {fd : FuncData} (Fx : Fun K "lone_words" "lone_words" s_lone_words f fd) (hmg : mg "lone_words" = some (.ref f)) (hb : Binds K fd ["lefts", "rights", "paired"] []) (B : Blt mg) : Def P w K mg base 1 "lone_words" true gLone := by
  refine def_of Fx sc_lone_words hmg hb (fun ds d ⟨ls, rs, ps, h1, h2, h3, e1, e2⟩ => by subst e1; rfl) fun cdv A outer s H Ex Z ds d hr ⟨ls, rs, ps, h1, h2, h3, e1, e2⟩ => ?_
  subst e1 e2
  have nd := sc_lone_words.nd
  have hu := room1 hr
  refine sd_ownD 3 e_dnewK ?_ nd
  refine sd_ownD 4 e_dnewK ?_ nd
  have hbig : ∀ (f : Str × Str → Str) (done : List (Str × Str)), done.length ≤ 10100 → (metK f ps done).length < sizeLine := fun f done h => Nat.lt_of_lt_of_le (Nat.lt_of_le_of_lt (metK_len f ps done) (show done.length < 20000 by omega)) big20000
  refine sd_forF 5 (ds := ls.map D.str) (fun n r => ∃ o5 o6, r = [some (.pl false (strsD ls)), some (.pl false (strsD rs)), some (.pl false (.dct (.t (pairedK ps)))), some (.od (.k (metK (·.2) ps (doneP (ls.take n) rs)))), some (.od (.k (metK (·.1) ps (doneP (ls.take n) rs)))), o5, o6, none, none])
    (it_list (e_var 0)) (fun d hd => by obtain ⟨p, _, rfl⟩ := List.mem_map.mp hd; rfl) ⟨_, _, rfl⟩ (fun n r ⟨_, _, e⟩ => by subst e; simp) (fun n d r hd ⟨o5, o6, e⟩ => ?_) (fun r ⟨o5, o6, e⟩ => ?_) nd
  · subst e
    rw [List.getElem?_map] at hd
    cases hp : ls[n]? with
    | none => rw [hp] at hd; cases hd
    | some l =>
      rw [hp] at hd
      cases hd
      have hn : n < ls.length := (List.getElem?_eq_some_iff.mp hp).1
      have ht : ls.take (n + 1) = ls.take n ++ [l] := by rw [List.take_add_one, hp]; rfl
      have hdl : (doneP (ls.take n) rs).length ≤ 10000 := by
        rw [doneP_len, List.length_take]
        exact Nat.le_trans (Nat.mul_le_mul (show min n ls.length ≤ 100 by omega) h2) (by decide)
      refine sd_forF 6 (ds := rs.map D.str) (fun m r => ∃ o6, r = [some (.pl false (strsD ls)), some (.pl false (strsD rs)), some (.pl false (.dct (.t (pairedK ps)))), some (.od (.k (metK (·.2) ps (doneP (ls.take n) rs ++ (rs.take m).map fun r => (l, r))))), some (.od (.k (metK (·.1) ps (doneP (ls.take n) rs ++ (rs.take m).map fun r => (l, r))))), some (.pl true (.str l)), o6, none, none])
        (it_list (e_var 1)) (fun d hd => by obtain ⟨p, _, rfl⟩ := List.mem_map.mp hd; rfl) ⟨o6, by simp⟩ (fun n r ⟨_, e⟩ => by subst e; simp) (fun m d r hd ⟨o6, e⟩ => ?_) (fun r ⟨o6, e⟩ => ?_) nd
      · subst e
        rw [List.getElem?_map] at hd
        cases hq : rs[m]? with
        | none => rw [hq] at hd; cases hd
        | some q =>
          rw [hq] at hd
          cases hd
          have ht2 : (rs.take (m + 1)).map (fun r => (l, r)) = (rs.take m).map (fun r => (l, r)) ++ [(l, q)] := by rw [List.take_add_one, hq, List.map_append]; rfl
          have hlen : (doneP (ls.take n) rs ++ (rs.take m).map fun r => (l, r)).length ≤ 10100 := by
            rw [List.length_append, List.length_map, List.length_take]
            omega
          refine sd_if (t_din (r := valV (pairedK ps) (prK (l, q))) (e_tup (ea_cons (e_var 5) (ea_one (e_var 6)))) (e_var 2) (DO.at_t (prD_key (l, q)) rfl) hu) (fun h => ?_) (fun h => sd_nil ?_)
          · have hm : (l, q) ∈ ps := by
              rw [pairedK_val] at h
              by_cases z : (l, q) ∈ ps
              · exact z
              · rw [if_neg z] at h; cases h
            refine sd_dput 4 (o' := .k (metK (·.1) ps (doneP (ls.take n) rs ++ (rs.take (m + 1)).map fun r => (l, r)))) rfl (e_var 5) e_bl rfl (DO.put_k (k := .inr l) rfl (hbig _ _ hlen) (by rw [ht2, ← List.append_assoc, metK_snoc, if_pos hm])) hu ?_
            refine sd_dput 3 (o' := .k (metK (·.2) ps (doneP (ls.take n) rs ++ (rs.take (m + 1)).map fun r => (l, r)))) rfl (e_var 6) e_bl rfl (DO.put_k (k := .inr q) rfl (hbig _ _ hlen) (by rw [ht2, ← List.append_assoc, metK_snoc, if_pos hm])) hu ?_
            exact sd_nil (sd_nil ⟨some (.pl true (.str q)), rfl⟩)
          · have hm : (l, q) ∉ ps := fun z => by
              rw [pairedK_val, if_pos z] at h
              cases h
            refine sd_nil ⟨some (.pl true (.str q)), ?_⟩
            rw [ht2, ← List.append_assoc, metK_snoc, metK_snoc, if_neg hm, if_neg hm]
            rfl
      · subst e
        refine sd_nil ⟨some (.pl true (.str l)), o6, ?_⟩
        rw [List.length_map, List.take_length, ht, doneP_snoc]
  subst e
  rw [List.length_map, List.take_length]
  refine sd_setCN 7 (d := strsD (ls.filter fun w => !goL ps rs w)) (EC.cast (ec_comp (m := true) (me := false) ["with_right"] [4] (fun d => match d with | .str w => !goL ps rs w | _ => false) (fun d => d) (it_list (e_var 0)) (fun C s H fp d hd => ?_) (fun C s H fp d hd _ => e_var 0) (by rw [List.length_map]; exact smallL (by omega)) (fun _ => .inr fun d hd => ?_)) ?_) ?_ nd
  · obtain ⟨v, hv, rfl⟩ := List.mem_map.mp hd
    have hk : (valV (metK (·.1) ps (doneP ls rs)) (.inr v)).isSome = goL ps rs v := by rw [metK_val, done_goL ls rs ps hv]
    refine ts_one (T.castB (t_dnotin (e_var 0) (e_var 1) (DO.at_k (k := .inr v) rfl rfl) hu) ?_)
    rw [hk]
  · obtain ⟨v, hv, rfl⟩ := List.mem_map.mp hd
    rfl
  · rw [List.map_id', List.filter_map]
    rfl
  refine sd_setCN 8 (d := strsD (rs.filter fun w => !goR ps ls w)) (EC.cast (ec_comp (m := true) (me := false) ["with_left"] [3] (fun d => match d with | .str w => !goR ps ls w | _ => false) (fun d => d) (it_list (e_var 1)) (fun C s H fp d hd => ?_) (fun C s H fp d hd _ => e_var 0) (by rw [List.length_map]; exact smallL (by omega)) (fun _ => .inr fun d hd => ?_)) ?_) ?_ nd
  · obtain ⟨v, hv, rfl⟩ := List.mem_map.mp hd
    have hk : (valV (metK (·.2) ps (doneP ls rs)) (.inr v)).isSome = goR ps ls v := by rw [metK_val, done_goR ls rs ps hv]
    refine ts_one (T.castB (t_dnotin (e_var 0) (e_var 1) (DO.at_k (k := .inr v) rfl rfl) hu) ?_)
    rw [hk]
  · obtain ⟨v, hv, rfl⟩ := List.mem_map.mp hd
    rfl
  · rw [List.map_id', List.filter_map]
    rfl
  refine sd_ret false (E.cast (e_add (e_lenL (e_var 7) B.len) (e_lenL (e_var 8) B.len)) ?_) rfl
  rw [List.length_map, List.length_map]
  unfold loneN
  rw [Int.natCast_add]
theorem ok_step_price {f aS : Addr} {fd : FuncData} (Fx : Fun K "step_price" "step_price" s_step_price f fd) (hmg : mg "step_price" = some (.ref f)) (hb : Binds K fd ["lefts", "rights", "prices", "paired"] []) (B : Blt mg) (hS : mg "STEPS" = some (.ref aS)) (kd : KD K P w aS stepsK) (dW : Def P w K mg base 1 "words_of" true gWordsOf) (dL : Def P w K mg base 1 "lone_words" true gLone) : Def P w K mg base 2 "step_price" true gStepPrice := by
  refine def_of Fx sc_step_price hmg hb (fun ds d ⟨ls, rs, prices, ps, hok, e1, e2⟩ => by subst e1; rfl) fun cdv A outer s H Ex Z ds d hr ⟨ls, rs, prices, ps, ⟨h1, h2, h5, h9, hst⟩, e1, e2⟩ => ?_
  subst e1 e2
  have nd := sc_step_price.nd
  have hu := room1 hr
  have fl := flatten_len ls
  have fr := flatten_len rs
  obtain ⟨t3, hg3⟩ := B.SLOPE
  obtain ⟨t4, hg4⟩ := B.LONE
  have hk3 := stepNo_lt ls.length rs.length
  have hlone := loneN_le ls.flatten rs.flatten ps
  refine sd_setN 4 (d := strsD ls.flatten) (e_call dW hr (ea_one (e_var 0)) ⟨ls, by omega, rfl, rfl⟩) ?_ nd
  refine sd_setN 5 (d := strsD rs.flatten) (e_call dW hr (ea_one (e_var 1)) ⟨rs, by omega, rfl, rfl⟩) ?_ nd
  refine sd_setF 6 (d := .int (prices.getD (stepNo ls.length rs.length) 0)) (e_ixT (i := ((stepNo ls.length rs.length : Nat) : Int)) (e_var 2) (e_kdsub (ks := [.inl ((ls.length : Nat) : Int), .inl ((rs.length : Nat) : Int)]) (i := _) hS kd (E.cast (e_tup (ea_cons (e_lenL (e_var 0) B.len) (ea_one (e_lenL (e_var 1) B.len)))) ?_) (stepsK_val hst) hu) (atI_nat (ints_get (by omega)))) rfl ?_ nd
  · rw [List.length_map, List.length_map]
    rfl
  refine sd_setF 7 (d := .int (prices.getD 3 0 * dist ls.flatten.length rs.flatten.length)) (E.cast (e_mul (e_ixT (i := 3) (d := .int (prices.getD 3 0)) (e_var 2) (e_gint hg3) (atI_nat (j := 3) (ints_get (by omega)))) (e_abs (e_sub (e_lenL (e_var 4) B.len) (e_lenL (e_var 5) B.len)) B.abs) ?_) ?_) rfl ?_ nd
  · rw [List.length_map, List.length_map]
    exact .inr (dist_lt (by omega) (by omega))
  · rw [List.length_map, List.length_map]
    rfl
  refine sd_ret false (e_add (e_add (e_var 6) (e_var 7)) (e_mul (e_ixT (i := 4) (d := .int (prices.getD 4 0)) (e_var 2) (e_gint hg4) (atI_nat (j := 4) (ints_get (by omega)))) (e_call dL hr (ea_cons (e_var 4) (ea_cons (e_var 5) (ea_one (e_var 3)))) ⟨_, _, ps, by omega, by omega, h9, rfl, rfl⟩) (.inr ⟨by omega, by omega⟩))) rfl
end

section
variable {P : Program} {w : World} {K : PySem.W.Frag} {mg : Str → Option Value} {base : Heap}
theorem ok_law_pairs {f : Addr} {fd : FuncData} (Fx : Fun K "_law_pairs" "_law_pairs" s_law_pairs f fd) (hmg : mg "_law_pairs" = some (.ref f)) (hb : Binds K fd ["_law_lefts", "_law_rights", "_law_cell"] []) (B : Blt mg) (dP : Def P w K mg base 1 "_law_part" true gPart) : Def P w K mg base 2 "_law_pairs" true gPairs := by
  refine def_of Fx sc_law_pairs hmg hb (fun ds d ⟨ws, vs, c, h1, h2, e1, e2⟩ => by subst e1; rfl) fun cdv A outer s H Ex Z ds d hr ⟨ws, vs, c, h1, h2, e1, e2⟩ => ?_
  subst e1 e2
  have nd := sc_law_pairs.nd
  have p0 := part_nn c 42 (show (0 : Int) < 9 by decide)
  have p9 := part_lt c 42 (show (0 : Int) < 9 by decide)
  refine sd_own 3 (e_lstN ea_nil) rfl ?_ nd
  refine sd_forF 4 (ds := rangeD 0 (part c 42 9).toNat) (fun n r => ∃ o4 o5 o6, r = [some (.pl false (strsD ws)), some (.pl false (strsD vs)), some (.pl false (.int c)), some (.ow true (((List.range n).map fun k => (ws.getD (part c (43 + ((k : Nat) : Int)) 4).toNat "", vs.getD (part c (53 + ((k : Nat) : Int)) 4).toNat "")).map prD)), o4, o5, o6] ∧ n ≤ 9)
    (it_range (n := part c 42 9) (m := true) (e_call dP hr (ea_cons (e_var 2) (ea_cons e_int (ea_one e_int))) ⟨_, _, _, by decide, rfl, rfl⟩) (by omega) (by omega) B.range) flat_range ⟨_, _, _, rfl, by omega⟩ (fun n r ⟨_, _, _, e, _⟩ => by subst e; simp) (fun n d r hd ⟨o4, o5, o6, e, hn⟩ => ?_) (fun r ⟨o4, o5, o6, e, hn⟩ => ?_) nd
  · subst e
    obtain ⟨hn9, rfl⟩ := rangeD0_get hd
    have a0 := part_nn c (43 + ((n : Nat) : Int)) (show (0 : Int) < 4 by decide)
    have a1 := part_lt c (43 + ((n : Nat) : Int)) (show (0 : Int) < 4 by decide)
    have b0 := part_nn c (53 + ((n : Nat) : Int)) (show (0 : Int) < 4 by decide)
    have b1 := part_lt c (53 + ((n : Nat) : Int)) (show (0 : Int) < 4 by decide)
    refine sd_setF 5 (d := .str (ws.getD (part c (43 + ((n : Nat) : Int)) 4).toNat "")) (e_ixL (e_var 0) (e_call dP hr (ea_cons (e_var 2) (ea_cons (e_add e_int (e_var 4)) (ea_one e_int))) ⟨_, _, _, by decide, rfl, rfl⟩) (atI_get a0 (strs_get (by omega)))) rfl ?_ nd
    refine sd_setF 6 (d := .str (vs.getD (part c (53 + ((n : Nat) : Int)) 4).toNat "")) (e_ixL (e_var 1) (e_call dP hr (ea_cons (e_var 2) (ea_cons (e_add e_int (e_var 4)) (ea_one e_int))) ⟨_, _, _, by decide, rfl, rfl⟩) (atI_get b0 (strs_get (by omega)))) rfl ?_ nd
    refine sd_appendF 3 true rfl (e_tup (ea_cons (e_var 5) (ea_one (e_var 6)))) rfl (by simp; omega) ?_
    refine sd_nil ⟨some (.pl true (.int (n : Nat))), some (.pl true (.str (ws.getD (part c (43 + ((n : Nat) : Int)) 4).toNat ""))), some (.pl true (.str (vs.getD (part c (53 + ((n : Nat) : Int)) 4).toNat ""))), ?_, by omega⟩
    rw [List.range_succ, List.map_append, List.map_append]
    rfl
  · subst e
    refine sd_ret true (E.cast (e_var 3) ?_) rfl
    rw [rangeD_len]
    rfl
theorem ok_law_prices {f : Addr} {fd : FuncData} (Fx : Fun K "_law_prices" "_law_prices" s_law_prices f fd) (hmg : mg "_law_prices" = some (.ref f)) (hb : Binds K fd ["_law_cell"] []) (B : Blt mg) (dP : Def P w K mg base 1 "_law_part" true gPart) : Def P w K mg base 2 "_law_prices" true gPrices := by
  refine def_of Fx sc_law_prices hmg hb (fun ds d ⟨c, e1, e2⟩ => by subst e1; rfl) fun cdv A outer s H Ex Z ds d hr ⟨c, e1, e2⟩ => ?_
  subst e1 e2
  have nd := sc_law_prices.nd
  have hpos : (0 : Int) < 10 ^ 60 + 1 := by decide
  refine sd_setF 1 (d := .int (c % (10 ^ 60 + 1))) (e_mod (j := 10 ^ 60 + 1) (e_var 0) (E.cast (e_add (e_pow (i := 10) (j := 60) e_int e_int ⟨by decide, by decide, by decide⟩) e_int) rfl) hpos) rfl ?_ nd
  generalize hg : c % (10 ^ 60 + 1) = g
  refine sd_setN 2 (d := intsD [g, g / 3, g / 7, g / 11, g % 13]) (e_lstN (ea_cons (e_var 1) (ea_cons (e_fdiv (e_var 1) e_int ⟨by decide, by decide⟩) (ea_cons (e_fdiv (e_var 1) e_int ⟨by decide, by decide⟩) (ea_cons (e_fdiv (e_var 1) e_int ⟨by decide, by decide⟩) (ea_one (e_mod (e_var 1) e_int (by decide)))))))) ?_ nd
  refine sd_ifJ [some (.pl false (.int c)), some (.pl true (.int g)), some (.pl true (intsD (pricesL c)))] (t_gtI (e_call dP hr (ea_cons (e_var 0) (ea_cons e_int (ea_one e_int))) ⟨_, _, _, by decide, rfl, rfl⟩) e_int) (fun h => ?_) (fun h => ?_) ?_
  · have h0 : 0 < part c 41 3 := by simpa using h
    refine sd_setCN 2 (d := intsD (pricesL c)) (EC.cast (ec_map (m := true) (me := true) ["_law_cell"] [0] (fun d => match d with | .int k => .int (part c (44 + k) 6) | d => d) (it_range (n := 5) (m := true) e_int (by decide) (by decide) B.range) (fun C s H fp d hd => ?_) (by rw [rangeD_len]; exact smallL (by decide))) ?_) (sd_nil rfl) nd
    · obtain ⟨k, _, rfl⟩ := List.mem_map.mp hd
      exact e_call dP hr (ea_cons (e_var 1) (ea_cons (e_add e_int (e_var 0)) (ea_one e_int))) ⟨_, _, _, by decide, rfl, rfl⟩
    · unfold pricesL
      rw [if_pos h0]
      simp [intsD, rangeD, Function.comp_def]
  · have h0 : ¬ 0 < part c 41 3 := by simpa using h
    refine sd_nil ?_
    unfold pricesL
    rw [if_neg h0, hg]
    rfl
  · exact sd_ret false (E.flat (e_tupleL (e_var 2) B.tuple) (by show flats _ = true; exact flats_ints _)) rfl
theorem ok_law_lone {f : Addr} {fd : FuncData} (Fx : Fun K "_law_lone" "_law_lone" s_law_lone f fd) (hmg : mg "_law_lone" = some (.ref f)) (hb : Binds K fd ["_law_words_here", "_law_others", "_law_pairs_here", "_law_turned"] []) (B : Blt mg) : Def P w K mg base 1 "_law_lone" true gLoneL := by
  refine def_of Fx sc_law_lone hmg hb (fun ds d ⟨ws, os, ps, tn, e1, e2⟩ => by subst e1; rfl) fun cdv A outer s H Ex Z ds d hr ⟨ws, os, ps, tn, e1, e2⟩ => ?_
  subst e1 e2
  have nd := sc_law_lone.nd
  have hud : _ + 1 + deps (os.map D.str) < cLine := roomDs hr (Nat.le_trans (deps_strsL os) (by decide))
  refine sd_setF 4 e_int rfl ?_ nd
  refine sd_forF 5 (ds := ws.map D.str) (fun n r => ∃ o5 o6 o7 o8, r = [some (.pl false (strsD ws)), some (.pl false (strsD os)), some (.pl false (prsD ps)), some (.pl false (.bl tn)), some (.pl true (.int (((ws.take n).filter fun w => !loneB tn os ps w).length : Nat))), o5, o6, o7, o8])
    (it_list (e_var 0)) (fun d hd => by obtain ⟨p, _, rfl⟩ := List.mem_map.mp hd; rfl) ⟨_, _, _, _, rfl⟩ (fun n r ⟨_, _, _, _, e⟩ => by subst e; simp) (fun n d r hd ⟨o5, o6, o7, o8, e⟩ => ?_) (fun r ⟨o5, o6, o7, o8, e⟩ => ?_) nd
  · subst e
    rw [List.getElem?_map] at hd
    cases hp : ws[n]? with
    | none => rw [hp] at hd; cases hd
    | some x =>
      rw [hp] at hd
      cases hd
      have ht : ws.take (n + 1) = ws.take n ++ [x] := by rw [List.take_add_one, hp]; rfl
      refine sd_setF 6 e_bl rfl ?_ nd
      refine sd_for2 7 8 false (ds := ps.map prD) (fun m r => ∃ o7 o8, r = [some (.pl false (strsD ws)), some (.pl false (strsD os)), some (.pl false (prsD ps)), some (.pl false (.bl tn)), some (.pl true (.int (((ws.take n).filter fun w => !loneB tn os ps w).length : Nat))), some (.pl true (.str x)), some (.pl true (.bl (loneB tn os (ps.take m) x))), o7, o8])
        (it_list (e_var 2)) ⟨_, _, rfl⟩ (fun n r ⟨_, _, e⟩ => by subst e; simp) (fun d hd => by
          obtain ⟨i, _, rfl⟩ := List.mem_map.mp hd
          exact ⟨_, _, rfl⟩) (fun m d1 d2 r hd ⟨o7, o8, e⟩ => ?_) (fun r ⟨o7, o8, e⟩ => ?_) nd
      · subst e
        rw [List.getElem?_map] at hd
        cases hq : ps[m]? with
        | none => rw [hq] at hd; cases hd
        | some q =>
          rw [hq] at hd
          cases hd
          have ht2 : ps.take (m + 1) = ps.take m ++ [q] := by rw [List.take_add_one, hq]; rfl
          have hnx : loneB tn os (ps.take (m + 1)) x = (loneB tn os (ps.take m) x || ((tn && (decide (q.2 = x) && decide (q.1 ∈ os))) || (!tn && (decide (q.1 = x) && decide (q.2 ∈ os))))) := by
            rw [ht2]
            unfold loneB
            rw [List.any_append]
            simp
          refine sd_ifJ [some (.pl false (strsD ws)), some (.pl false (strsD os)), some (.pl false (prsD ps)), some (.pl false (.bl tn)), some (.pl true (.int (((ws.take n).filter fun w => !loneB tn os ps w).length : Nat))), some (.pl true (.str x)), some (.pl true (.bl (loneB tn os (ps.take (m + 1)) x))), some (.pl false (.str q.1)), some (.pl false (.str q.2))]
            (b := (tn && (decide (q.2 = x) && decide (q.1 ∈ os))) || (!tn && (decide (q.1 = x) && decide (q.2 ∈ os)))) (TW.t (tw_or (TW.t (tw_and (t_val (e_var 3)) fun _ => tw_and (t_eqS (e_var 8) (e_var 5)) fun _ => tw_and1 (T.castB (t_inD (e_var 7) (e_var 1) hud) (any_strs os q.1)))) fun _ => tw_or1 (TW.t (tw_and (t_not (t_val (e_var 3))) fun _ => tw_and (t_eqS (e_var 7) (e_var 5)) fun _ => tw_and1 (T.castB (t_inD (e_var 8) (e_var 1) hud) (any_strs os q.2)))))) (fun h => ?_) (fun h => ?_) ?_
          · refine sd_setF 6 e_bl rfl (sd_nil ?_) nd
            rw [hnx, h, Bool.or_true]
            rfl
          · refine sd_nil ?_
            rw [hnx, h, Bool.or_false]
            rfl
          · exact sd_nil ⟨_, _, rfl⟩
      · subst e
        rw [List.length_map, List.take_length]
        refine sd_ifJ [some (.pl false (strsD ws)), some (.pl false (strsD os)), some (.pl false (prsD ps)), some (.pl false (.bl tn)), some (.pl true (.int (((ws.take (n + 1)).filter fun w => !loneB tn os ps w).length : Nat))), some (.pl true (.str x)), some (.pl true (.bl (loneB tn os ps x))), o7, o8] (t_not (t_val (e_var 6))) (fun h => ?_) (fun h => ?_) (sd_nil ⟨_, _, _, _, rfl⟩)
        · refine sd_setF 4 (e_add (e_var 4) e_int) rfl (sd_nil ?_) nd
          rw [ht, filter_snoc, if_pos h, List.length_append]
          simp [List.set]
        · refine sd_nil ?_
          rw [ht, filter_snoc, if_neg (by rw [h]; decide), List.append_nil]
  · subst e
    refine sd_ret true (E.cast (e_var 4) ?_) rfl
    rw [List.length_map, List.take_length]
theorem ok_law_step_price {f : Addr} {fd : FuncData} (Fx : Fun K "_law_step_price" "_law_step_price" s_law_step_price f fd) (hmg : mg "_law_step_price" = some (.ref f)) (hb : Binds K fd ["_law_lefts", "_law_rights", "_law_prices_here", "_law_pairs_here"] []) (B : Blt mg) (dL : Def P w K mg base 1 "_law_lone" true gLoneL) : Def P w K mg base 2 "_law_step_price" true gPrice := by
  refine def_of Fx sc_law_step_price hmg hb (fun ds d ⟨ls, rs, prices, ps, hok, e1, e2⟩ => by subst e1; rfl) fun cdv A outer s H Ex Z ds d hr ⟨ls, rs, prices, ps, ⟨h1, h2, h5, h9, hst⟩, e1, e2⟩ => ?_
  subst e1 e2
  have nd := sc_law_step_price.nd
  have fl := flatten_len ls
  have fr := flatten_len rs
  have hlone := loneN_le ls.flatten rs.flatten ps
  have hcat : ∀ (rows : List (List Str)) (n : Nat) (row : List Str), tot rows ≤ 100 → rows[n]? = some row → (rows.take n).flatten.length + row.length ≤ 100 := fun rows n row h hp => by
    have ht : rows.take (n + 1) = rows.take n ++ [row] := by rw [List.take_add_one, hp]; rfl
    have := flatten_len rows
    have h2 : (rows.take (n + 1)).flatten.length ≤ rows.flatten.length := by
      conv => rhs; rw [← List.take_append_drop (n + 1) rows, List.flatten_append, List.length_append]
      omega
    rw [ht, List.flatten_append, List.length_append, show [row].flatten = row by simp] at h2
    omega
  refine sd_setN 4 (d := strsD []) (e_lstN ea_nil) ?_ nd
  refine sd_for 5 false (ds := ls.map strsD) (fun n r => ∃ o5, r = [some (.pl false (rowsD ls)), some (.pl false (rowsD rs)), some (.pl false (intsT prices)), some (.pl false (prsD ps)), some (.pl true (strsD (ls.take n).flatten)), o5, none, none, none])
    (it_list (e_var 0)) ⟨_, rfl⟩ (fun n r ⟨_, e⟩ => by subst e; simp) (fun n d r hd ⟨o5, e⟩ => ?_) (fun r ⟨o5, e⟩ => ?_) nd
  · subst e
    rw [List.getElem?_map] at hd
    cases hp : ls[n]? with
    | none => rw [hp] at hd; cases hd
    | some row =>
      rw [hp] at hd
      cases hd
      have hle := hcat ls n row h1 hp
      refine sd_setN 4 (d := strsD (ls.take (n + 1)).flatten) (E.cast (e_catL (m := true) (e_var 4) (e_var 5) (by rw [List.length_map, List.length_map]; exact smallL (by omega)) (fun _ => ⟨.inr (flats_strs _), .inr (flats_strs _)⟩)) ?_) (sd_nil ⟨_, rfl⟩) nd
      rw [List.take_add_one, hp]
      simp [strsD]
  subst e
  rw [List.length_map, List.take_length]
  refine sd_setN 6 (d := strsD []) (e_lstN ea_nil) ?_ nd
  refine sd_for 5 false (ds := rs.map strsD) (fun n r => ∃ o5, r = [some (.pl false (rowsD ls)), some (.pl false (rowsD rs)), some (.pl false (intsT prices)), some (.pl false (prsD ps)), some (.pl true (strsD ls.flatten)), o5, some (.pl true (strsD (rs.take n).flatten)), none, none])
    (it_list (e_var 1)) ⟨_, rfl⟩ (fun n r ⟨_, e⟩ => by subst e; simp) (fun n d r hd ⟨o5, e⟩ => ?_) (fun r ⟨o5, e⟩ => ?_) nd
  · subst e
    rw [List.getElem?_map] at hd
    cases hp : rs[n]? with
    | none => rw [hp] at hd; cases hd
    | some row =>
      rw [hp] at hd
      cases hd
      have hle := hcat rs n row h2 hp
      refine sd_setN 6 (d := strsD (rs.take (n + 1)).flatten) (E.cast (e_catL (m := true) (e_var 6) (e_var 5) (by rw [List.length_map, List.length_map]; exact smallL (by omega)) (fun _ => ⟨.inr (flats_strs _), .inr (flats_strs _)⟩)) ?_) (sd_nil ⟨_, rfl⟩) nd
      rw [List.take_add_one, hp]
      simp [strsD]
  subst e
  rw [List.length_map, List.take_length]
  refine sd_setF 7 (d := .int (prices.getD 2 0)) (e_ixT (i := 2) (e_var 2) e_int (atI_nat (j := 2) (ints_get (by omega)))) rfl ?_ nd
  have l0 : ((ls.map strsD).length : Int) = (ls.length : Int) := by rw [List.length_map]
  have r0 : ((rs.map strsD).length : Int) = (rs.length : Int) := by rw [List.length_map]
  refine sd_ifJ [some (.pl false (rowsD ls)), some (.pl false (rowsD rs)), some (.pl false (intsT prices)), some (.pl false (prsD ps)), some (.pl true (strsD ls.flatten)), o5, some (.pl true (strsD rs.flatten)), some (.pl true (.int (prices.getD (stepNo ls.length rs.length) 0))), none]
    (TW.t (tw_and (t_eqI (e_lenL (e_var 0) B.len) e_int) fun _ => tw_and1 (t_eqI (e_lenL (e_var 1) B.len) e_int))) (fun h => ?_) (fun h => ?_) ?_
  · rw [l0, r0, Bool.and_eq_true, decide_eq_true_eq, decide_eq_true_eq] at h
    have hs : stepNo ls.length rs.length = 0 := by unfold stepNo; rw [if_pos (by omega)]
    rw [hs]
    exact sd_setF 7 (d := .int (prices.getD 0 0)) (e_ixT (i := 0) (e_var 2) e_int (atI_nat (j := 0) (ints_get (by omega)))) rfl (sd_nil rfl) nd
  · rw [l0, r0, Bool.and_eq_false_iff, decide_eq_false_iff_not, decide_eq_false_iff_not] at h
    have hn : ¬ (ls.length = 1 ∧ rs.length = 1) := by omega
    refine sd_ifJ [some (.pl false (rowsD ls)), some (.pl false (rowsD rs)), some (.pl false (intsT prices)), some (.pl false (prsD ps)), some (.pl true (strsD ls.flatten)), o5, some (.pl true (strsD rs.flatten)), some (.pl true (.int (prices.getD (stepNo ls.length rs.length) 0))), none]
      (TW.t (tw_and (t_gtI (e_lenL (e_var 0) B.len) e_int) fun _ => tw_and1 (t_gtI (e_lenL (e_var 1) B.len) e_int))) (fun h => ?_) (fun h => ?_) (sd_nil rfl)
    · rw [l0, r0, Bool.and_eq_true, decide_eq_true_eq, decide_eq_true_eq] at h
      have hs : stepNo ls.length rs.length = 1 := by unfold stepNo; rw [if_neg hn, if_pos (by omega)]
      rw [hs]
      exact sd_setF 7 (d := .int (prices.getD 1 0)) (e_ixT (i := 1) (e_var 2) e_int (atI_nat (j := 1) (ints_get (by omega)))) rfl (sd_nil rfl) nd
    · rw [l0, r0, Bool.and_eq_false_iff, decide_eq_false_iff_not, decide_eq_false_iff_not] at h
      have hs : stepNo ls.length rs.length = 2 := by unfold stepNo; rw [if_neg hn, if_neg (by omega)]
      rw [hs]
      exact sd_nil rfl
  refine sd_setF 7 (d := .int (prices.getD (stepNo ls.length rs.length) 0 + prices.getD 3 0 * dist ls.flatten.length rs.flatten.length)) (E.cast (e_add (e_var 7) (e_mul (e_ixT (i := 3) (d := .int (prices.getD 3 0)) (e_var 2) e_int (atI_nat (j := 3) (ints_get (by omega)))) (e_max2 (e_sub (e_lenL (e_var 4) B.len) (e_lenL (e_var 6) B.len)) (e_sub (e_lenL (e_var 6) B.len) (e_lenL (e_var 4) B.len)) B.max) ?_)) ?_) rfl ?_ nd
  · rw [List.length_map, List.length_map, maxdist]
    exact .inr (dist_lt (by omega) (by omega))
  · rw [List.length_map, List.length_map, maxdist]
  refine sd_setF 8 (d := .int (loneN ls.flatten rs.flatten ps : Nat)) (E.cast (e_add (e_call dL hr (ea_cons (e_var 4) (ea_cons (e_var 6) (ea_cons (e_var 3) (ea_one e_bl)))) ⟨_, _, ps, false, rfl, rfl⟩) (e_call dL hr (ea_cons (e_var 6) (ea_cons (e_var 4) (ea_cons (e_var 3) (ea_one e_bl)))) ⟨_, _, ps, true, rfl, rfl⟩)) ?_) rfl ?_ nd
  · unfold loneN
    rw [← Int.natCast_add, show (fun w => !loneB false rs.flatten ps w) = fun w => !goL ps rs.flatten w from funext fun v => by rw [loneB_f], show (fun w => !loneB true ls.flatten ps w) = fun w => !goR ps ls.flatten w from funext fun v => by rw [loneB_t]]
  exact sd_ret false (e_add (e_var 7) (e_mul (e_ixT (i := 4) (d := .int (prices.getD 4 0)) (e_var 2) e_int (atI_nat (j := 4) (ints_get (by omega)))) (e_var 8) (.inr ⟨by omega, by omega⟩))) rfl
end

section
variable {P : Program} {w : World} {K : PySem.W.Frag} {mg : Str → Option Value} {base : Heap}
theorem ok_law_text {f : Addr} {fd : FuncData} (Fx : Fun K "_law_text" "_law_text" s_law_text f fd) (hmg : mg "_law_text" = some (.ref f)) (hb : Binds K fd ["_law_words_here", "_law_cells"] []) (B : Blt mg) (dP : Def P w K mg base 1 "_law_part" true gPart) : Def P w K mg base 2 "_law_text" true gText := by
  refine def_of Fx sc_law_text hmg hb (fun ds d ⟨ws, cells, h4, hc, e1, e2⟩ => by subst e1; rfl) fun cdv A outer s H Ex Z ds d hr ⟨ws, cells, h4, hc, e1, e2⟩ => ?_
  subst e1 e2
  have nd := sc_law_text.nd
  refine sd_own21 2 (e_lstF (eaf_cons (e_lstN ea_nil) eaf_nil)) ?_ nd
  refine sd_forF 3 (ds := cells.map D.int) (fun n r => ∃ o3 o4, r = [some (.pl false (strsD ws)), some (.pl false (intsD cells)), some (.ow2 true ((textT ws (cells.take n)).map fun r => r.map D.str)), o3, o4])
    (it_list (e_var 1)) flat_ints ⟨_, _, rfl⟩ (fun n r ⟨_, _, e⟩ => by subst e; simp) (fun n d r hd ⟨o3, o4, e⟩ => ?_) (fun r ⟨o3, o4, e⟩ => ?_) nd
  · subst e
    rw [List.getElem?_map] at hd
    cases hcn : cells[n]? with
    | none => rw [hcn] at hd; cases hd
    | some c =>
      rw [hcn] at hd
      cases hd
      have hn : n < cells.length := (List.getElem?_eq_some_iff.mp hcn).1
      have ht : cells.take (n + 1) = cells.take n ++ [c] := by rw [List.take_add_one, hcn]; rfl
      obtain ⟨⟨t1, t2, t3⟩, init, last, er⟩ := textT_ok h4 (cells.take n)
      rw [er] at t1 t2
      have hlast : last.length ≤ 60 := by
        have := row_le_tot (rows := init ++ [last]) (r := last) (by simp)
        rw [List.length_take] at t2
        omega
      have hinit : init.length ≤ 4 := by simp at t1; omega
      have p0 := part_nn c 21 (show (0 : Int) < 6 by decide)
      have p9 := part_lt c 21 (show (0 : Int) < 6 by decide)
      refine sd_setF 4 (d := .int (part c 21 6)) (e_call dP hr (ea_cons (e_var 3) (ea_cons e_int (ea_one e_int))) ⟨_, _, _, by decide, rfl, rfl⟩) rfl ?_ nd
      rw [er, List.map_append]
      refine sd_if (t_ltI (e_var 4) e_int) (fun h => ?_) (fun h => ?_)
      · have h5 : part c 21 6 < 4 := by simpa using h
        refine sd_append2 2 (dss := init.map fun r => r.map D.str) (ds := last.map D.str) true rfl (e_neg e_int) (e_ixL (d := .str (ws.getD (part c 21 6).toNat "")) (e_var 0) (e_var 4) (atI_get p0 (strs_get (by omega)))) rfl (by simp; omega) ?_
        refine sd_nil (sd_nil ⟨some (.pl true (.int c)), some (.pl true (.int (part c 21 6))), ?_⟩)
        rw [ht, textT_snoc, er]
        unfold stepT
        rw [if_pos h5]
        simp [List.set]
      · have h5 : ¬ part c 21 6 < 4 := by simpa using h
        refine sd_if (t_ltI (e_lenL (e_var 2) B.len) e_int) (fun h => ?_) (fun h => ?_)
        · have h6 : (init ++ [last]).length < 5 := by simp at h ⊢; omega
          refine sd_append2n 2 true rfl (e_lstN ea_nil) (by simp; omega) ?_
          refine sd_nil (sd_nil (sd_nil ⟨some (.pl true (.int c)), some (.pl true (.int (part c 21 6))), ?_⟩))
          rw [ht, textT_snoc, er]
          unfold stepT
          rw [if_neg h5, if_pos h6]
          simp [List.set]
        · have h6 : ¬ (init ++ [last]).length < 5 := by simp at h ⊢; omega
          refine sd_nil (sd_nil (sd_nil ⟨some (.pl true (.int c)), some (.pl true (.int (part c 21 6))), ?_⟩))
          rw [ht, textT_snoc, er]
          unfold stepT
          rw [if_neg h5, if_neg h6]
          simp [List.set]
  · subst e
    rw [List.length_map, List.take_length]
    obtain ⟨⟨t1, t2, t3⟩, init, last, er⟩ := textT_ok h4 cells
    have eA : textA ws cells = if part ((last.length : Nat) + (cells.length : Nat)) 24 5 = 1 then init else init ++ [last] := by
      unfold textA
      rw [er, List.getLast?_concat, List.dropLast_concat]
      rfl
    rw [er, List.map_append]
    have hc2 : D.lst ((init.map (fun r => r.map D.str) ++ [last].map fun r => r.map D.str).map D.lst) = D.lst ((init.map fun r => D.lst (r.map D.str)) ++ [.lst (last.map D.str)]) := by simp [Function.comp_def]
    refine sd_if (t_eqI (e_call dP hr (ea_cons (E.cast (e_add (e_lenL (e_ixL (ds := (init.map fun r => D.lst (r.map D.str)) ++ [.lst (last.map D.str)]) (E.cast (e_var 2) hc2) (e_neg e_int) (atI_last _ _)) B.len) (e_lenL (e_var 1) B.len)) (show _ = D.int ((last.length : Nat) + (cells.length : Nat)) by rw [List.length_map, List.length_map])) (ea_cons e_int (ea_one e_int))) ⟨_, _, _, by decide, rfl, rfl⟩) e_int) (fun h => ?_) (fun h => sd_nil ?_)
    · have h0 : part ((last.length : Nat) + (cells.length : Nat)) 24 5 = 1 := by simpa using h
      refine sd_pop2 2 (dss := init.map fun r => r.map D.str) (ds := last.map D.str) true rfl ?_
      refine sd_nil (sd_ret true (E.cast (e_var 2) ?_) rfl)
      rw [eA, if_pos h0, List.map_map]
      rfl
    · have h0 : ¬ part ((last.length : Nat) + (cells.length : Nat)) 24 5 = 1 := by simpa using h
      refine sd_ret true (E.cast (e_var 2) ?_) rfl
      rw [eA, if_neg h0, ← List.map_append, List.map_map]
      rfl
end

section
variable {P : Program} {w : World} {K : PySem.W.Frag} {mg : Str → Option Value} {base : Heap}
theorem ok_is_way {f : Addr} {fd : FuncData} (Fx : Fun K "is_way" "is_way" s_is_way f fd) (hmg : mg "is_way" = some (.ref f)) (hb : Binds K fd ["lefts", "rights", "steps"] []) (B : Blt mg) {aS : Addr} (hS : mg "STEPS" = some (.ref aS)) (kd : KD K P w aS stepsK) (ki : KI K aS (stepsP.map keyP)) : Def P w K mg base 1 "is_way" true gIsWayZ := by
  refine def_of Fx sc_is_way hmg hb (fun ds d ⟨ls, rs, zs, h1, e1, e2⟩ => by subst e1; rfl) fun cdv A outer s H Ex Z ds d hr ⟨ls, rs, zs, h1, e1, e2⟩ => ?_
  subst e1 e2
  have nd := sc_is_way.nd
  have hh := hr.hd
  have hu := room1 hr
  refine sd_if (b := !(zs.all fun z => decide (z ∈ stepsZ))) (T.castB (t_not (t_val (e_all (bs := zs.map fun z => decide (z ∈ stepsZ)) (E.cast (e_map (m := true) (me := true) [] [] (fun d => .bl (decide (g2 d ∈ stepsZ))) (it_list (e_var 2)) (fun C s H fp d hd => ?a1) ?a2) ?a3) hh B.all))) (by rw [List.all_map]; rfl)) (fun h => ?_) (fun h => sd_nil ?_)
  case a1 =>
    obtain ⟨p, hp, rfl⟩ := List.mem_map.mp hd
    exact e_inKZ hS kd ki.ns (e_var 0) hu
  case a2 => rw [List.length_map]; exact smallL (by omega)
  case a3 => rw [List.map_map, List.map_map]; rfl
  · refine sd_ret false (E.cast e_bl ?_) rfl
    unfold isWayZ
    have h0 : (zs.all fun z => decide (z ∈ stepsZ)) = false := by simpa using h
    rw [h0]
    rfl
  have h0 : (zs.all fun z => decide (z ∈ stepsZ)) = true := by simpa using h
  refine sd_setF 3 (d := .tup [.int (s1Z zs), .int (s2Z zs)]) (e_tup (ea_cons (e_sum (ns := zs.map fun p => p.1) (E.cast (e_map (m := true) (me := true) [] [] (fun d => .int (g2 d).1) (it_list (e_var 2)) (fun C s H fp d hd => ?b1) ?b2) ?b3) hh B.sum) (ea_one (e_sum (ns := zs.map fun p => p.2) (E.cast (e_map (m := true) (me := true) [] [] (fun d => .int (g2 d).2) (it_list (e_var 2)) (fun C s H fp d hd => ?c1) ?c2) ?c3) hh B.sum)))) rfl ?_ nd
  case b1 =>
    obtain ⟨p, hp, rfl⟩ := List.mem_map.mp hd
    exact E.flat (e_ixT (d := .int p.1) (e_var 0) e_int rfl) rfl
  case b2 => rw [List.length_map]; exact smallL (by omega)
  case b3 => rw [List.map_map, List.map_map]; rfl
  case c1 =>
    obtain ⟨p, hp, rfl⟩ := List.mem_map.mp hd
    exact E.flat (e_ixT (d := .int p.2) (e_var 0) e_int rfl) rfl
  case c2 => rw [List.length_map]; exact smallL (by omega)
  case c3 => rw [List.map_map, List.map_map]; rfl
  have el : D.int ((ls.map strsD).length : Nat) = .int (ls.length : Nat) := by rw [List.length_map]
  have er : D.int ((rs.map strsD).length : Nat) = .int (rs.length : Nat) := by rw [List.length_map]
  refine sd_ret false (E.cast (e_eqD (d := .tup [.int (s1Z zs), .int (s2Z zs)]) (d' := .tup [.int (ls.length : Nat), .int (rs.length : Nat)]) (e_var 3) (e_tup (ea_cons (E.cast (e_lenL (e_var 0) B.len) el) (ea_one (E.cast (e_lenL (e_var 1) B.len) er)))) rfl (roomD (n := 1) hr (by simp [D.dep, deps]))) ?_) rfl
  unfold isWayZ
  rw [h0, Bool.true_and]
  refine congrArg D.bl ?_
  rw [Bool.eq_iff_iff]
  simp [deq, deqs]
theorem ok_way_price {f : Addr} {fd : FuncData} (Fx : Fun K "way_price" "way_price" s_way_price f fd) (hmg : mg "way_price" = some (.ref f)) (hb : Binds K fd ["lefts", "rights", "prices", "pairs", "steps"] []) (B : Blt mg) (dI : Def P w K mg base 1 "is_way" true gIsWayZ) (dB : Def P w K mg base 1 "by_pair" true gByPair) (dS : Def P w K mg base 2 "step_price" true gStepPrice) {xb xq xn xt xx xd : Addr} (XR : Errs K mg xb xq xn xt xx xd) : DefX P w K mg base 3 "way_price" true gWayPriceZ (rWayPriceZ xn) := by
  refine def_ofX Fx sc_way_price hmg hb (fun ds d ⟨ls, rs, prices, ps, zs, ⟨h1, h2, e1⟩, h3, e2⟩ => by subst e1; rfl) (fun ds d ⟨ls, rs, prices, ps, zs, ⟨h1, h2, e1⟩, h3, e2⟩ => by subst e1; rfl) (fun cdv A outer s H Ex Z ds d hr ⟨ls, rs, prices, ps, zs, ⟨ok, h2, e1⟩, h3, e2⟩ => ?_) fun cdv A outer s H Ex Z ds c hr ⟨ls, rs, prices, ps, zs, ⟨ok, h2, e1⟩, h3, e2⟩ hE hx => ?_
  · subst e1 e2
    have nd := sc_way_price.nd
    have hr1 : Room 1 _ := hr.mono (by decide)
    obtain ⟨hw, hz⟩ := isWayZ_way h3
    refine sd_if (b := false) (T.castB (t_not (t_val (e_call dI hr1 (ea_cons (e_var 0) (ea_cons (e_var 1) (ea_one (e_var 4)))) ⟨ls, rs, zs, h2, rfl, rfl⟩))) (by rw [h3]; rfl)) (fun h => by cases h) (fun h => sd_nil ?_)
    refine sd_setN 5 (d := .dct (.t (pairedK ps))) (e_call dB hr1 (ea_one (e_var 3)) ⟨ps, ok.pp, rfl, rfl⟩) ?_ nd
    refine sd_setF 6 (d := .int 0) e_int rfl ?_ nd
    refine sd_setF 7 (d := .int 0) e_int rfl ?_ nd
    refine sd_setF 8 (d := .int 0) e_int rfl ?_ nd
    have hzl : (plsZ zs : D) = .lst ((zs.map toN).map plD) := by
      conv => lhs; rw [← hz]
      unfold plsZ
      rw [List.map_map]
      rfl
    rw [hzl]
    have hl : (zs.map toN).length ≤ 900 := by rw [List.length_map]; exact h2
    generalize zs.map toN = st at hw hl
    generalize hpr : priceE ls rs prices ps = price
    refine sd_forF 9 (ds := st.map plD) (fun n r => ∃ o9 o10 o11, r = [some (.pl false (rowsD ls)), some (.pl false (rowsD rs)), some (.pl false (intsT prices)), some (.pl false (prsD ps)), some (.pl false (.lst (st.map plD))), some (.pl true (.dct (.t (pairedK ps)))), some (.pl true (.int (sum1 (st.take n) : Nat))), some (.pl true (.int (sum2 (st.take n) : Nat))), some (.pl true (.int (costP price 0 0 (st.take n)))), o9, o10, o11])
      (it_list (e_var 4)) (fun d hd => by obtain ⟨p, _, rfl⟩ := List.mem_map.mp hd; rfl) ⟨none, none, none, rfl⟩ (fun n r ⟨_, _, _, e⟩ => by subst e; simp) (fun n d r hd ⟨o9, o10, o11, e⟩ => ?_) (fun r ⟨o9, o10, o11, e⟩ => ?_) nd
    · subst e
      rw [List.getElem?_map] at hd
      cases hp : st[n]? with
      | none => rw [hp] at hd; cases hd
      | some p =>
        rw [hp] at hd
        cases hd
        obtain ⟨w1, w2, w3, w4⟩ := way_at hw hp
        rw [w4, sum1_snoc, sum2_snoc, costP_snoc]
        generalize sum1 (st.take n) = i at w2
        generalize sum2 (st.take n) = j at w3
        generalize costP price 0 0 (st.take n) = tt
        refine sd_set 10 false (d := rowsD ((ls.drop i).take p.1)) (E.cast (e_slL (m := false) (e_var 0) (eo_some (e_var 6)) (eo_some (e_add (e_var 6) (e_ixT (d := .int (p.1 : Nat)) (e_var 9) e_int rfl)))) ?_) ?_ nd
        · show D.lst (cut (ls.map strsD) (some ((i : Nat) : Int)) (some (((i : Nat) : Int) + ((p.1 : Nat) : Int)))) = _
          rw [show ((i : Nat) : Int) + ((p.1 : Nat) : Int) = ((i + p.1 : Nat) : Int) by omega, cut_both, ← List.map_drop, ← List.map_take, Nat.add_sub_cancel_left]
          rfl
        refine sd_set 11 false (d := rowsD ((rs.drop j).take p.2)) (E.cast (e_slL (m := false) (e_var 1) (eo_some (e_var 7)) (eo_some (e_add (e_var 7) (e_ixT (d := .int (p.2 : Nat)) (e_var 9) e_int rfl)))) ?_) ?_ nd
        · show D.lst (cut (rs.map strsD) (some ((j : Nat) : Int)) (some (((j : Nat) : Int) + ((p.2 : Nat) : Int)))) = _
          rw [show ((j : Nat) : Int) + ((p.2 : Nat) : Int) = ((j + p.2 : Nat) : Int) by omega, cut_both, ← List.map_drop, ← List.map_take, Nat.add_sub_cancel_left]
          rfl
        refine sd_setF 8 (d := .int (tt + stepP ((ls.drop i).take p.1) ((rs.drop j).take p.2) prices ps)) (e_add (e_var 8) (e_call dS hr (ea_cons (e_var 10) (ea_cons (e_var 11) (ea_cons (e_var 2) (ea_one (e_var 5))))) ⟨_, _, prices, ps, step_ok ok w1 w2 w3, rfl, rfl⟩)) rfl ?_ nd
        refine sd_setF 6 (d := .int ((i + p.1 : Nat) : Int)) (E.cast (e_add (e_var 6) (e_ixT (d := .int (p.1 : Nat)) (e_var 9) e_int rfl)) rfl) rfl ?_ nd
        refine sd_setF 7 (d := .int ((j + p.2 : Nat) : Int)) (E.cast (e_add (e_var 7) (e_ixT (d := .int (p.2 : Nat)) (e_var 9) e_int rfl)) rfl) rfl ?_ nd
        refine sd_nil ⟨some (.pl true (plD p)), some (.pl false (rowsD ((ls.drop i).take p.1))), some (.pl false (rowsD ((rs.drop j).take p.2))), ?_⟩
        rw [← hpr, Nat.zero_add, Nat.zero_add, price_from]
        rfl
    · subst e
      refine sd_ret true (E.cast (e_var 8) ?_) rfl
      rw [List.length_map, List.take_length]
  · subst e1 e2
    have hr1 : Room 1 _ := hr.mono (by decide)
    refine sd_if (b := true) (T.castB (t_not (t_val (e_call dI hr1 (ea_cons (e_var 0) (ea_cons (e_var 1) (ea_one (e_var 4)))) ⟨ls, rs, zs, h2, rfl, rfl⟩))) (by rw [h3]; rfl)) (fun h => ?_) (fun h => by cases h)
    exact sd_raise1 hx XR.gn XR.kn F.excBase_ValueError e_str fun H' s' => hE H' s'
end

section
variable {P : Program} {w : World} {K : PySem.W.Frag} {mg : Str → Option Value} {base : Heap}
theorem ok_law_way {f : Addr} {fd : FuncData} (Fx : Fun K "_law_way" "_law_way" s_law_way f fd) (hmg : mg "_law_way" = some (.ref f)) (hb : Binds K fd ["_law_lefts", "_law_rights", "_law_cells"] []) (B : Blt mg) (dC : Def P w K mg base 1 "_law_cell_at" true gCellAt) (dP : Def P w K mg base 1 "_law_part" true gPart) : Def P w K mg base 2 "_law_way" true gWayC := by
  refine def_of Fx sc_law_way hmg hb (fun ds d ⟨ls, rs, cs, h1, h2, h9, e1, e2⟩ => by subst e1; rfl) fun cdv A outer s H Ex Z ds d hr ⟨ls, rs, cs, h1, h2, h9, e1, e2⟩ => ?_
  subst e1 e2
  have nd := sc_law_way.nd
  have e10 : (ls.map strsD).length = ls.length := List.length_map ..
  have e20 : (rs.map strsD).length = rs.length := List.length_map ..
  generalize hm : ls.length = m at e10 h1
  generalize ho : rs.length = o at e20 h2
  refine sd_own 3 (e_lstN ea_nil) rfl ?_ nd
  refine sd_setF 4 e_int rfl ?_ nd
  refine sd_setF 5 e_int rfl ?_ nd
  refine sd_forF 6 (ds := rangeD 0 10) (fun n r => ∃ o6 o7 o8, r = [some (.pl false (rowsD ls)), some (.pl false (rowsD rs)), some (.pl false (intsD cs)), some (.ow true ((wayC m o cs n).st.map plD)), some (.pl true (.int ((wayC m o cs n).i : Nat))), some (.pl true (.int ((wayC m o cs n).j : Nat))), o6, o7, o8] ∧ n ≤ 10)
    (it_rangeL (n := 10) e_int B.range (by omega)) flat_range ⟨_, _, _, rfl, by omega⟩ (fun n r ⟨_, _, _, e, _⟩ => by subst e; simp) (fun n d r hd ⟨o6, o7, o8, e, hn⟩ => ?_) (fun r ⟨o6, o7, o8, e, hn⟩ => ?_) nd
  · subst e
    obtain ⟨hn2, rfl⟩ := rangeD0_get hd
    have hlen := wayC_len m o cs n
    rw [wayC_succ]
    generalize wayC m o cs n = W at hlen
    refine sd_own 7 (e_lstN ea_nil) rfl ?_ nd
    refine SDS.ok ?_
    refine sds_forF 8 (ds := stepsL.map plD) (mi := false) (fun k r => ∃ o8, r = [some (.pl false (rowsD ls)), some (.pl false (rowsD rs)), some (.pl false (intsD cs)), some (.ow true (W.st.map plD)), some (.pl true (.int (W.i : Nat))), some (.pl true (.int (W.j : Nat))), some (.pl true (.int (n : Nat))), some (.ow true (((stepsL.take k).filter fun s => decide (W.i + s.1 ≤ m) && decide (W.j + s.2 ≤ o)).map plD)), o8])
      ?hit (fun d hd => by obtain ⟨i, _, rfl⟩ := List.mem_map.mp hd; rfl) ⟨_, rfl⟩ (fun n r ⟨_, e⟩ => by subst e; simp) (fun k d r hd ⟨o8, e⟩ => ?_) (fun r ⟨o8, e⟩ => ?_) nd ?f1 ?f3 ?f5 ?f7 ?f8 ?f9
    case f1 => exact rfl
    case f3 => exact Or.inl rfl
    case f5 => first | exact .inl rfl | exact .inr rfl
    case f7 => exact rfl
    case f8 => intro _; rfl
    case f9 => exact PassesOwn.never
    case hit =>
      refine its_list (ES.cast (d := .lst [.tup [.int 1, .int 1], .tup [.int 1, .int 2], .tup [.int 2, .int 1], .tup [.int 1, .int 0], .tup [.int 0, .int 1]]) ?_ rfl)
      refine es_lst ?_ (by show 5 ≤ 1000; decide)
      refine esa_cons (m1 := false) ⟨e_tup (ea_cons e_int (ea_one e_int))⟩ ?_ (star_ne rfl)
      refine esa_cons (m1 := false) ⟨e_tup (ea_cons e_int (ea_one e_int))⟩ ?_ (star_ne rfl)
      refine esa_cons (m1 := false) ⟨e_tup (ea_cons e_int (ea_one e_int))⟩ ?_ (star_ne rfl)
      refine esa_cons (m1 := false) ⟨e_tup (ea_cons e_int (ea_one e_int))⟩ ?_ (star_ne rfl)
      refine esa_cons (m1 := false) ⟨e_tup (ea_cons e_int (ea_one e_int))⟩ ?_ (star_ne rfl)
      exact esa_nil
    · subst e
      rw [List.getElem?_map] at hd
      cases hq : stepsL[k]? with
      | none => rw [hq] at hd; cases hd
      | some q =>
        rw [hq] at hd
        cases hd
        have ht : stepsL.take (k + 1) = stepsL.take k ++ [q] := by rw [List.take_add_one, hq]; rfl
        have hfl : ((stepsL.take k).filter fun s => decide (W.i + s.1 ≤ m) && decide (W.j + s.2 ≤ o)).length ≤ 5 := Nat.le_trans (List.length_filter_le _ _) (by rw [List.length_take]; exact Nat.min_le_right _ _)
        refine sd_if (b := decide (W.i + q.1 ≤ m) && decide (W.j + q.2 ≤ o)) (TW.t (tw_and (T.castB (t_leI (e_add (e_var 4) (e_ixT (d := .int q.1) (e_var 8) e_int rfl)) (e_lenL (e_var 0) B.len)) (by rw [e10, Bool.eq_iff_iff]; simp; omega)) fun _ => tw_and1 (T.castB (t_leI (e_add (e_var 5) (e_ixT (d := .int q.2) (e_var 8) e_int rfl)) (e_lenL (e_var 1) B.len)) (by rw [e20, Bool.eq_iff_iff]; simp; omega)))) (fun h => ?_) (fun h => sd_nil (sd_nil ⟨some (.pl true (plD q)), ?_⟩))
        · refine sd_appendF 7 true rfl (e_var 8) rfl (by rw [List.length_map]; omega) ?_
          refine sd_nil (sd_nil ⟨some (.pl true (plD q)), ?_⟩)
          rw [ht, filter_snoc, if_pos h, List.map_append]
          rfl
        · rw [ht, filter_snoc, if_neg (by rw [h]; decide), List.append_nil]
          rfl
    · subst e
      rw [List.length_map, List.take_length]
      have hfe : (stepsL.filter fun s => decide (W.i + s.1 ≤ m) && decide (W.j + s.2 ≤ o)) = fitS m o W.i W.j := rfl
      rw [hfe]
      have hf5 : (fitS m o W.i W.j).length ≤ 5 := List.length_filter_le _ _
      unfold stepC
      generalize fitS m o W.i W.j = fs at hf5
      refine sd_if (T.castB (t_neD (e_var 7) (e_lst ea_nil) rfl (roomD hr (dep_pls fs))) (show _ = !decide (fs = []) by rw [show (D.lst [] : D) = plsD [] from rfl]; exact congrArg not (told_pls fs []))) (fun h => ?_) (fun h => sd_nil ?_)
      · have hne : fs ≠ [] := by simpa using h
        have hpos : 0 < fs.length := List.length_pos_iff.mpr hne
        have hlI : ((fs.map plD).length : Int) = (fs.length : Int) := by rw [List.length_map]
        have q0 := part_nn (cellAt cs n) 25 (show (0 : Int) < (fs.length : Int) by omega)
        have q1 := part_lt (cellAt cs n) 25 (show (0 : Int) < (fs.length : Int) by omega)
        rw [if_neg hne]
        dsimp only
        refine sd_setF 8 (d := plD (fs.getD (part (cellAt cs n) 25 fs.length).toNat (0, 0))) (e_ixL (e_var 7) (e_call dP hr (ea_cons (e_call dC hr (ea_cons (e_var 2) (ea_one (e_var 6))) ⟨cs, n, by omega, rfl, rfl⟩) (ea_cons e_int (ea_one (e_lenL (e_var 7) B.len)))) ⟨_, _, _, by rw [hlI]; omega, rfl, rfl⟩) (by rw [hlI]; exact atI_get q0 (pls_get (by omega)))) rfl ?_ nd
        generalize fs.getD (part (cellAt cs n) 25 fs.length).toNat (0, 0) = q
        refine sd_appendF 3 true rfl (e_var 8) rfl (by rw [List.length_map]; omega) ?_
        refine sd_setF 4 (d := .int ((W.i + q.1 : Nat) : Int)) (E.cast (e_add (e_var 4) (e_ixT (d := .int q.1) (e_var 8) e_int rfl)) (by simp)) rfl ?_ nd
        refine sd_setF 5 (d := .int ((W.j + q.2 : Nat) : Int)) (E.cast (e_add (e_var 5) (e_ixT (d := .int q.2) (e_var 8) e_int rfl)) (by simp)) rfl ?_ nd
        refine sd_nil (sd_nil ⟨some (.pl true (.int (n : Nat))), some (.ow true (fs.map plD)), some (.pl true (plD q)), ?_, by omega⟩)
        rw [List.map_append]
        rfl
      · have hne : fs = [] := by simpa using h
        rw [if_pos hne]
        exact sd_nil ⟨_, _, _, rfl, by omega⟩
  · subst e
    refine sd_ret true (E.cast (e_var 3) ?_) rfl
    rw [rangeD_len]
    unfold plsZ
    rw [List.map_map]
    rfl
theorem ok_law_spoiled {f : Addr} {fd : FuncData} (Fx : Fun K "_law_spoiled" "_law_spoiled" s_law_spoiled f fd) (hmg : mg "_law_spoiled" = some (.ref f)) (hb : Binds K fd ["_law_steps", "_law_cell"] []) (B : Blt mg) (dP : Def P w K mg base 1 "_law_part" true gPart) : Def P w K mg base 2 "_law_spoiled" true gSpoilZ := by
  refine def_of Fx sc_law_spoiled hmg hb (fun ds d ⟨zs, c, h1, e1, e2⟩ => by subst e1; rfl) fun cdv A outer s H Ex Z ds d hr ⟨zs, c, h1, e1, e2⟩ => ?_
  subst e1 e2
  have nd := sc_law_spoiled.nd
  have hl : ((zs.map plZ).length : Int) = (zs.length : Nat) := by rw [List.length_map]
  have fl : ∀ l : List (Int × Int), flats (l.map plZ) = true := fun l => flats_all fun d hd => by obtain ⟨z, _, rfl⟩ := List.mem_map.mp hd; rfl
  have p0 := part_nn c 26 (show (0 : Int) < ((zs.length : Nat) : Int) + 1 by omega)
  have p9 := part_lt c 26 (show (0 : Int) < ((zs.length : Nat) : Int) + 1 by omega)
  unfold spoilZ
  refine sd_setF 2 (d := .int (part c 26 ((zs.length : Nat) + 1))) (e_call dP hr (ea_cons (e_var 1) (ea_cons e_int (ea_one (E.cast (e_add (e_lenL (e_var 0) B.len) e_int) (by rw [hl]))))) ⟨_, _, _, by omega, rfl, rfl⟩) rfl ?_ nd
  obtain ⟨n, hn⟩ := Int.eq_ofNat_of_zero_le p0
  rw [hn] at p9 ⊢
  rw [Int.toNat_natCast]
  refine sd_setF 3 (d := .int (part c 27 3)) (e_call dP hr (ea_cons (e_var 1) (ea_cons e_int (ea_one e_int))) ⟨_, _, _, by decide, rfl, rfl⟩) rfl ?_ nd
  generalize part c 27 3 = k
  have cto : D.lst (cut (zs.map plZ) none (some ((n : Nat) : Int))) = .lst ((zs.take n).map plZ) := by rw [cut_to, List.map_take]
  have cfr : D.lst (cut (zs.map plZ) (some ((n : Nat) : Int)) none) = .lst ((zs.drop n).map plZ) := by rw [cut_from, List.map_drop]
  have cfs : D.lst (cut (zs.map plZ) (some (((n : Nat) : Int) + 1)) none) = .lst ((zs.drop (n + 1)).map plZ) := by rw [show ((n : Nat) : Int) + 1 = ((n + 1 : Nat) : Int) by omega, cut_from, List.map_drop]
  have cmi : D.lst (cut (zs.map plZ) (some ((n : Nat) : Int)) (some (((n : Nat) : Int) + 1))) = .lst (((zs.drop n).take 1).map plZ) := by rw [show ((n : Nat) : Int) + 1 = ((n + 1 : Nat) : Int) by omega, cut_both, ← List.map_drop, ← List.map_take, Nat.add_sub_cancel_left]
  have small : ∀ {a b : Nat}, a + b ≤ 900 → a + b ≤ sizeLine := fun h => smallL (by omega)
  refine sd_if (t_eqI (e_var 3) e_int) (fun h => ?_) (fun h => sd_nil ?_)
  · have h0 : k = 0 := by simpa using h
    rw [if_pos h0]
    refine sd_ret false (E.cast (e_catL (m := true) (ds := (zs.take n).map plZ) (es := (zs.drop (n + 1)).map plZ) (E.cast (e_slL (m := false) (e_var 0) eo_none (eo_some (e_var 2))) cto) (E.cast (e_slL (m := false) (e_var 0) (eo_some (e_add (e_var 2) e_int)) eo_none) cfs) (small (by simp; omega)) (fun _ => ⟨.inr (fl _), .inr (fl _)⟩)) ?_) rfl
    unfold plsZ
    rw [List.map_append]
  have h0 : ¬ k = 0 := by simpa using h
  rw [if_neg h0]
  refine sd_if (t_eqI (e_var 3) e_int) (fun h => ?_) (fun h => sd_nil ?_)
  · have h1 : k = 1 := by simpa using h
    rw [if_pos h1]
    refine sd_ret false (E.cast (e_catL (m := true) (ds := (zs.take n).map plZ ++ ((zs.drop n).take 1).map plZ) (es := (zs.drop n).map plZ) (e_catL (m := true) (E.cast (e_slL (m := false) (e_var 0) eo_none (eo_some (e_var 2))) cto) (E.cast (e_slL (m := false) (e_var 0) (eo_some (e_var 2)) (eo_some (e_add (e_var 2) e_int))) cmi) (small (by simp; omega)) (fun _ => ⟨.inr (fl _), .inr (fl _)⟩)) (E.cast (e_slL (m := false) (e_var 0) (eo_some (e_var 2)) eo_none) cfr) (small (by simp; omega)) (fun _ => ⟨.inl rfl, .inr (fl _)⟩)) ?_) rfl
    unfold plsZ
    rw [List.map_append, List.map_append]
  have h1 : ¬ k = 1 := by simpa using h
  rw [if_neg h1]
  refine sd_ret false (E.cast (e_catL (m := true) (ds := (zs.take n).map plZ ++ [plZ (part c 28 5 - 1, part c 29 5 - 1)]) (es := (zs.drop (n + 1)).map plZ) (e_catL (m := true) (es := [plZ (part c 28 5 - 1, part c 29 5 - 1)]) (E.cast (e_slL (m := false) (e_var 0) eo_none (eo_some (e_var 2))) cto)
    (e_lstN (ds := [plZ (part c 28 5 - 1, part c 29 5 - 1)]) (ea_one (m1 := false) (e_tup (ea_cons (e_sub (e_call dP hr (ea_cons (e_var 1) (ea_cons e_int (ea_one e_int))) ⟨_, _, _, by decide, rfl, rfl⟩) e_int) (ea_one (e_sub (e_call dP hr (ea_cons (e_var 1) (ea_cons e_int (ea_one e_int))) ⟨_, _, _, by decide, rfl, rfl⟩) e_int)))))) (small (by simp; omega)) (fun _ => ⟨.inr (fl _), .inl rfl⟩)) (E.cast (e_slL (m := false) (e_var 0) (eo_some (e_add (e_var 2) e_int)) eo_none) cfs) (small (by simp; omega)) (fun _ => ⟨.inl rfl, .inr (fl _)⟩)) ?_) rfl
  unfold plsZ
  rw [List.map_append, List.map_append]
  rfl
end
section
variable {P : Program} {w : World} {K : PySem.W.Frag} {mg : Str → Option Value} {base : Heap}
theorem anyZ (z : Int × Int) : ((stepsZ.map plZ).any fun e => deq e (plZ z)) = decide (z ∈ stepsZ) := by
  obtain ⟨i, j⟩ := z
  rw [Bool.eq_iff_iff]
  simp [stepsZ, plZ, deq, deqs]
  omega
theorem ok_law_due {f : Addr} {fd : FuncData} (Fx : Fun K "_law_due" "_law_due" s_law_due f fd) (hmg : mg "_law_due" = some (.ref f)) (hb : Binds K fd ["_law_lefts", "_law_rights", "_law_prices_here", "_law_pairs_here", "_law_steps"] []) (B : Blt mg) (dS : Def P w K mg base 2 "_law_step_price" true gPrice) : Def P w K mg base 3 "_law_due" true gDueZ := by
  refine def_of Fx sc_law_due hmg hb (fun ds d ⟨ls, rs, prices, ps, zs, ⟨h1, h2, e1⟩, e2⟩ => by subst e1; rfl) fun cdv A outer s H Ex Z ds d hr ⟨ls, rs, prices, ps, zs, ⟨ok, hzl, e1⟩, e2⟩ => ?_
  subst e1 e2
  have nd := sc_law_due.nd
  refine sd_setF 5 (d := .int 0) e_int rfl ?_ nd
  refine sd_setF 6 (d := .int 0) e_int rfl ?_ nd
  refine sd_setF 7 (d := .int 0) e_int rfl ?_ nd
  generalize hpr : priceE ls rs prices ps = price
  refine sd_for2I 8 9 false (ds := zs.map plZ) (fun n r => (∀ z ∈ zs.take n, z ∈ stepsZ) ∧ s1Z (zs.take n) ≤ (ls.length : Nat) ∧ s2Z (zs.take n) ≤ (rs.length : Nat) ∧ ∃ o8 o9, r = [some (.pl false (rowsD ls)), some (.pl false (rowsD rs)), some (.pl false (intsT prices)), some (.pl false (prsD ps)), some (.pl false (plsZ zs)), some (.pl true (.int (costP price 0 0 ((zs.take n).map toN)))), some (.pl true (.int (sum1 ((zs.take n).map toN) : Nat))), some (.pl true (.int (sum2 ((zs.take n).map toN) : Nat))), o8, o9])
    (it_list (e_var 4)) ⟨by simp, by simp [s1Z], by simp [s2Z], none, none, rfl⟩ (fun n r ⟨_, _, _, _, _, e⟩ => by subst e; simp) (fun d hd => by
      obtain ⟨p, _, rfl⟩ := List.mem_map.mp hd
      exact ⟨_, _, .inl rfl⟩) (fun n d r hd ⟨q1, q2, q3, o8, o9, e⟩ => ?_) (fun r ⟨q1, q2, q3, o8, o9, e⟩ => ?_) nd
  · subst e
    rw [List.getElem?_map] at hd
    cases hp : zs[n]? with
    | none => rw [hp] at hd; cases hd
    | some z =>
      rw [hp] at hd
      cases hd
      have hzm : z ∈ zs := List.mem_of_getElem? hp
      have ht : zs.take (n + 1) = zs.take n ++ [z] := by rw [List.take_add_one, hp]; rfl
      obtain ⟨_, c2, c3, c4⟩ := castN q1
      have hw : isWayZ ls.length rs.length zs = true → z ∈ stepsZ ∧ s1Z (zs.take n) + z.1 ≤ (ls.length : Nat) ∧ s2Z (zs.take n) + z.2 ≤ (rs.length : Nat) := fun hw => by
        have := isWayZ_take (n := n + 1) hw
        rw [ht, s1Z_app, s2Z_app] at this
        unfold isWayZ at hw
        rw [Bool.and_eq_true, List.all_eq_true] at hw
        refine ⟨of_decide_eq_true (hw.1 z hzm), ?_, ?_⟩
        · simpa [s1Z] using this.1
        · simpa [s2Z] using this.2
      rw [← c3] at hw q2
      rw [← c4] at hw q3
      generalize hi : sum1 ((zs.take n).map toN) = i at hw q2
      generalize hj : sum2 ((zs.take n).map toN) = j at hw q3
      refine sd_if (b := !(decide (z ∈ stepsZ)) || (decide (((ls.length : Nat) : Int) < (i : Nat) + z.1) || decide (((rs.length : Nat) : Int) < (j : Nat) + z.2))) (TW.t (tw_or (T.castB (t_notInD (m2 := false) (d := plZ z) (ds := stepsZ.map plZ) (e_tup (ea_cons (e_var 8) (ea_one (e_var 9)))) ?five (roomDs hr (by decide))) (by rw [anyZ])) fun _ => tw_or (T.castB (t_gtI (e_add (e_var 6) (e_var 8)) (e_lenL (e_var 0) B.len)) (by rw [List.length_map]; rfl)) fun _ => tw_or1 (T.castB (t_gtI (e_add (e_var 7) (e_var 9)) (e_lenL (e_var 1) B.len)) (by rw [List.length_map]; rfl)))) (fun h => ?_) (fun h => sd_nil ?_)
      case five =>
        refine ES.ok ?_
        refine ES.cast (d := .lst [.tup [.int 1, .int 1], .tup [.int 1, .int 2], .tup [.int 2, .int 1], .tup [.int 1, .int 0], .tup [.int 0, .int 1]]) ?_ rfl
        refine es_lst ?_ (by show 5 ≤ 1000; decide)
        refine esa_cons (m1 := false) ⟨e_tup (ea_cons e_int (ea_one e_int))⟩ ?_ (star_ne rfl)
        refine esa_cons (m1 := false) ⟨e_tup (ea_cons e_int (ea_one e_int))⟩ ?_ (star_ne rfl)
        refine esa_cons (m1 := false) ⟨e_tup (ea_cons e_int (ea_one e_int))⟩ ?_ (star_ne rfl)
        refine esa_cons (m1 := false) ⟨e_tup (ea_cons e_int (ea_one e_int))⟩ ?_ (star_ne rfl)
        refine esa_cons (m1 := false) ⟨e_tup (ea_cons e_int (ea_one e_int))⟩ ?_ (star_ne rfl)
        exact esa_nil
      · refine sd_ret false (E.cast e_non ?_) rfl
        unfold dueZ
        rw [if_neg]
        · rfl
        intro hz
        obtain ⟨z1, z2, z3⟩ := hw hz
        rw [decide_eq_true z1, decide_eq_false (by omega), decide_eq_false (by omega)] at h
        cases h
      · simp only [Bool.or_eq_false_iff, Bool.not_eq_false', decide_eq_true_eq, decide_eq_false_iff_not] at h
        obtain ⟨z1, z2, z3⟩ := h
        obtain ⟨g1, g2⟩ := stepsZ_N z1
        have e1 : z.1 = ((toN z).1 : Int) := (congrArg Prod.fst g2).symm
        have e2 : z.2 = ((toN z).2 : Int) := (congrArg Prod.snd g2).symm
        have hg : Y.g2 (plZ z) = (((toN z).1 : Int), ((toN z).2 : Int)) := by
          show (z.1, z.2) = _
          rw [← e1, ← e2]
        rw [hg, ht]
        rw [List.map_append, show [z].map toN = [toN z] from rfl, sum1_snoc, sum2_snoc, costP_snoc, hi, hj]
        generalize hp' : toN z = p at g1 e1 e2
        have w2 : i + p.1 ≤ ls.length := by omega
        have w3 : j + p.2 ≤ rs.length := by omega
        generalize costP price 0 0 ((zs.take n).map toN) = tt
        refine sd_setF 5 (d := .int (tt + stepP ((ls.drop i).take p.1) ((rs.drop j).take p.2) prices ps)) (e_add (e_var 5) (e_call dS hr (ea_cons (E.cast (e_slL (m := false) (e_var 0) (eo_some (e_var 6)) (eo_some (e_add (e_var 6) (e_var 8)))) ?s1) (ea_cons (E.cast (e_slL (m := false) (e_var 1) (eo_some (e_var 7)) (eo_some (e_add (e_var 7) (e_var 9)))) ?s2) (ea_cons (e_var 2) (ea_one (e_var 3))))) ⟨_, _, prices, ps, step_ok ok g1 w2 w3, rfl, rfl⟩)) rfl ?_ nd
        case s1 =>
          show D.lst (cut (ls.map strsD) (some ((i : Nat) : Int)) (some (((i : Nat) : Int) + ((p.1 : Nat) : Int)))) = rowsD ((ls.drop i).take p.1)
          rw [show ((i : Nat) : Int) + ((p.1 : Nat) : Int) = ((i + p.1 : Nat) : Int) by omega, cut_both, ← List.map_drop, ← List.map_take, Nat.add_sub_cancel_left]
          rfl
        case s2 =>
          show D.lst (cut (rs.map strsD) (some ((j : Nat) : Int)) (some (((j : Nat) : Int) + ((p.2 : Nat) : Int)))) = rowsD ((rs.drop j).take p.2)
          rw [show ((j : Nat) : Int) + ((p.2 : Nat) : Int) = ((j + p.2 : Nat) : Int) by omega, cut_both, ← List.map_drop, ← List.map_take, Nat.add_sub_cancel_left]
          rfl
        refine sd_setF 6 (d := .int ((i + p.1 : Nat) : Int)) (E.cast (e_add (e_var 6) (e_var 8)) rfl) rfl ?_ nd
        refine sd_setF 7 (d := .int ((j + p.2 : Nat) : Int)) (E.cast (e_add (e_var 7) (e_var 9)) rfl) rfl ?_ nd
        refine sd_nil ⟨fun y hy => ?_, ?_, ?_, some (.pl true (.int (p.1 : Nat))), some (.pl true (.int (p.2 : Nat))), ?_⟩
        · rcases List.mem_append.mp hy with hy | hy
          · exact q1 y hy
          · rw [List.mem_singleton.mp hy]; exact z1
        · rw [s1Z_app, ← c3, hi]
          simp [s1Z]
          omega
        · rw [s2Z_app, ← c4, hj]
          simp [s2Z]
          omega
        · rw [← hpr, Nat.zero_add, Nat.zero_add, price_from]
          rfl
  · subst e
    rw [List.length_map, List.take_length] at q1 q2 q3 ⊢
    obtain ⟨_, c2, c3, c4⟩ := castN q1
    have hall : (zs.all fun z => decide (z ∈ stepsZ)) = true := List.all_eq_true.mpr fun z hz => decide_eq_true (q1 z hz)
    unfold dueZ isWayZ
    rw [hall, Bool.true_and, ← c3, ← c4]
    rw [← c3] at q2
    rw [← c4] at q3
    rw [← hpr]
    generalize sum1 (zs.map toN) = i at q2
    generalize sum2 (zs.map toN) = j at q3
    refine sd_if (b := decide (((i : Nat) : Int) < (ls.length : Nat)) || decide (((j : Nat) : Int) < (rs.length : Nat))) (TW.t (tw_or (T.castB (t_ltI (e_var 6) (e_lenL (e_var 0) B.len)) (by rw [List.length_map])) fun _ => tw_or1 (T.castB (t_ltI (e_var 7) (e_lenL (e_var 1) B.len)) (by rw [List.length_map])))) (fun h => ?_) (fun h => sd_nil ?_)
    · refine sd_ret false (E.cast e_non ?_) rfl
      rw [if_neg]
      · rfl
      intro hz
      have hz := of_decide_eq_true hz
      simp only [Bool.or_eq_true, decide_eq_true_eq] at h
      omega
    · refine sd_ret true (E.cast (e_var 5) ?_) rfl
      simp only [Bool.or_eq_false_iff, decide_eq_false_iff_not] at h
      rw [if_pos (decide_eq_true (by omega))]
      rfl
end
section
variable {P : Program} {w : World} {K : PySem.W.Frag} {mg : Str → Option Value} {base : Heap}
theorem dep_plsZ (zs : List (Int × Int)) : (plsZ zs).dep ≤ 2 := dep_lst fun d hd => by
  obtain ⟨z, _, rfl⟩ := List.mem_map.mp hd
  simp [plZ, D.dep, deps]
theorem ok_law_right {f : Addr} {fd : FuncData} (Fx : Fun K "_law_right" "_law_right" s_law_right f fd) (hmg : mg "_law_right" = some (.ref f)) (hb : Binds K fd ["_law_lefts", "_law_rights", "_law_prices_here", "_law_pairs_here", "_law_steps"] []) (B : Blt mg) (dD : Def P w K mg base 3 "_law_due" true gDueZ) {xb xq xn xt xx xd : Addr} (dW : DefX P w K mg base 3 "way_price" true gWayPriceZ (rWayPriceZ xn)) (XR : Errs K mg xb xq xn xt xx xd) : Def P w K mg base 4 "_law_right" true gRightZ := by
  refine def_of Fx sc_law_right hmg hb (fun ds d ⟨ls, rs, prices, ps, zs, ⟨h1, h2, e1⟩, e2⟩ => by subst e1; rfl) fun cdv A outer s H Ex Z ds d hr ⟨ls, rs, prices, ps, zs, ⟨ok, hzl, e1⟩, e2⟩ => ?_
  subst e1 e2
  have nd := sc_law_right.nd
  refine sd_setF 5 (d := noneD (dueZ ls rs prices ps zs)) (e_call dD hr (ea_cons (e_var 0) (ea_cons (e_var 1) (ea_cons (e_var 2) (ea_cons (e_var 3) (ea_one (e_var 4)))))) ⟨ls, rs, prices, ps, zs, ⟨ok, hzl, rfl⟩, rfl⟩) (by cases dueZ ls rs prices ps zs <;> rfl) ?_ nd
  refine sd_setF 6 (d := .tup []) (e_tup ea_nil) rfl ?_ nd
  refine sd_set 7 false (d := .lst [rowsD ls, rowsD rs, plsZ zs]) (e_lst (ea_cons (e_listL (m := false) (e_var 0) B.list) (ea_cons (e_listL (m := false) (e_var 1) B.list) (ea_one (e_listL (m := false) (e_var 4) B.list))))) ?_ nd
  have hrest : ∀ (fnd : D) (o8 o9 : Option Slot), (match dueZ ls rs prices ps zs with | some c => fnd = .int c | none => fnd = .tup [.bl true, .bl true, .bl false]) → SD (cxOf CX0 P w K mg base ["_law_lefts", "_law_rights", "_law_prices_here", "_law_pairs_here", "_law_steps", "_law_due_here", "_law_found", "_law_handed", "e", "_law_others"] "_law_right" (defScope s_law_right) f cdv A outer s H Ex).nox ⟨true, Z, H⟩ ((defBody s_law_right).drop 4)
      [some (.pl false (rowsD ls)), some (.pl false (rowsD rs)), some (.pl false (intsT prices)), some (.pl false (prsD ps)), some (.pl false (plsZ zs)), some (.pl true (noneD (dueZ ls rs prices ps zs))), some (.pl true fnd), some (.pl false (.lst [rowsD ls, rowsD rs, plsZ zs])), o8, o9] { nx := fun _ => D.bl true = .non, rt := fun d' => d' = D.bl true } := fun fnd o8 o9 hf => by
    refine sd_if (b := false) (T.castB (t_neD (d := .lst [rowsD ls, rowsD rs, plsZ zs]) (d' := .lst [rowsD ls, rowsD rs, plsZ zs]) (e_var 7) (e_lst (ea_cons (e_var 0) (ea_cons (e_var 1) (ea_one (e_var 4))))) rfl (roomD (n := 3) hr (dep_lst fun d hd => ?dp))) (by rw [deq_refl]; rfl)) (fun h => by cases h) (fun h => sd_nil ?_)
    case dp =>
      simp only [List.mem_cons, List.not_mem_nil, or_false] at hd
      rcases hd with rfl | rfl | rfl
      · exact dep_rows ls
      · exact dep_rows rs
      · exact dep_plsZ zs
    cases hd : dueZ ls rs prices ps zs with
    | none =>
      rw [hd] at hf
      have hf : fnd = .tup [.bl true, .bl true, .bl false] := hf
      subst hf
      refine sd_if (t_isN (o := none) (e_var 5) e_non) (fun h => ?_) (fun h => by cases h)
      refine sd_ret false (E.cast (e_eqD (d := .tup [.bl true, .bl true, .bl false]) (d' := .tup [.bl true, .bl true, .bl false]) (e_var 6) (e_tup (ea_cons e_bl (ea_cons e_bl (ea_one e_bl)))) rfl (roomD (n := 1) hr (by simp [D.dep, deps]))) ?_) rfl
      rw [deq_refl]
    | some c =>
      rw [hd] at hf
      have hf : fnd = .int c := hf
      subst hf
      refine sd_if (t_isN (o := some c) (e_var 5) e_non) (fun h => by cases h) (fun h => sd_nil ?_)
      refine sd_ret false (E.cast (e_and (q := true) (e_isi (b := true) (e_var 6) rfl PyProof.Rows.boot_int B.isinstance B.int) fun _ => E.cast (e_and (q := true) (e_not (e_isi (b := false) (e_var 6) rfl PyProof.Rows.boot_bool B.isinstance B.bool)) fun _ => e_one (E.cast (e_eqI (e_var 6) (e_var 5)) (by simp))) rfl) rfl) rfl
  by_cases hw : isWayZ ls.length rs.length zs = true
  · have hdue : dueZ ls rs prices ps zs = some (costP (priceE ls rs prices ps) 0 0 (zs.map toN)) := if_pos hw
    refine sd_trySet 6 8 (C' := xb) (o := .ok (.int (costP (priceE ls rs prices ps) 0 0 (zs.map toN)))) (ex_call (m := true) (ds := [rowsD ls, rowsD rs, intsT prices, prsD ps, plsZ zs]) dW (fun _ _ h => h) hr (ea_cons (e_ixL (e_var 7) e_int rfl) (ea_cons (e_ixL (e_var 7) e_int rfl) (ea_cons (e_var 2) (ea_cons (e_listL (m := false) (e_var 3) B.list) (ea_one (e_ixL (e_var 7) e_int rfl)))))) ⟨ls, rs, prices, ps, zs, ⟨ok, hzl, rfl⟩, hw, rfl⟩) (fun _ _ h => h) (fun d hd => ?_) (fun c hc => by cases hc) nd
    cases hd
    exact hrest _ none none (by rw [hdue])
  · have hw : isWayZ ls.length rs.length zs = false := by simpa using hw
    have hdue : dueZ ls rs prices ps zs = none := if_neg (by rw [hw]; decide)
    refine sd_trySet 6 8 (C' := xb) (o := .error ⟨xn, none⟩) (ex_call (m := true) (ds := [rowsD ls, rowsD rs, intsT prices, prsD ps, plsZ zs]) dW (fun _ _ h => h) hr (ea_cons (e_ixL (e_var 7) e_int rfl) (ea_cons (e_ixL (e_var 7) e_int rfl) (ea_cons (e_var 2) (ea_cons (e_listL (m := false) (e_var 3) B.list) (ea_one (e_ixL (e_var 7) e_int rfl)))))) ⟨ls, rs, prices, ps, zs, ⟨ok, hzl, rfl⟩, hw, rfl⟩) (fun _ _ h => h) (fun d hd => by cases hd) (fun c hc => ?_) nd
    cases hc
    refine ⟨rfl, ⟨⟨_, XR.kn.o, by simp⟩, ⟨_, XR.ob, by decide +kernel⟩, XR.g xn (by simp), XR.gb⟩, fun a oe hp => ?_⟩
    have hu8 := roomDs (ds := [D.bl false, .bl false, .bl false, .bl false]) hr (by decide)
    refine sd_setW (i := 8) (a := a) 9 (d := .lst [.bl false, .bl false, .bl false, .bl false]) (xw_lst (xwa_cons (m1 := true) (xw_isi hp (XR.is (xn, xd, false) (by simp [kitTab])) XR.gd B.isinstance) (xwa_cons (m1 := true) (xw_isi hp (XR.is (xn, xq, false) (by simp [kitTab])) XR.gq B.isinstance) (xwa_cons (m1 := true) (xw_isi hp (XR.is (xn, xx, false) (by simp [kitTab])) XR.gx B.isinstance) (xwa_cons (m1 := true) (xw_isi hp (XR.is (xn, xt, false) (by simp [kitTab])) XR.gt B.isinstance) xwa_nil))))) ?_ nd
    refine sd_setW (i := 8) (a := a) 6 (d := .tup [.bl true, .bl true, .bl false]) (xw_tup (xwa_cons (m1 := true) (xw_isi hp (XR.is (xn, xn, true) (by simp [kitTab])) XR.gn B.isinstance) (xwa_cons (m1 := true) (xw_isiT hp (XR.isV xn (by simp)) rfl B.ValueError B.isinstance) (xwa_cons (m1 := true) (XW.of (E.cast (e_inD (ds := [.bl false, .bl false, .bl false, .bl false]) e_bl (e_var 9) hu8) rfl)) xwa_nil)))) ?_ nd
    refine sd_nil ⟨by simp [startD], ?_⟩
    exact hrest _ none (some (.pl true (.lst [.bl false, .bl false, .bl false, .bl false]))) (by rw [hdue])
end
section
variable {P : Program} {w : World} {K : PySem.W.Frag} {mg : Str → Option Value} {base : Heap}
theorem ok_law {f : Addr} {fd : FuncData} (Fx : Fun K "law" "law" s_law f fd) (B : Blt mg) (dC : Def P w K mg base 1 "_law_cell_at" true gCellAt) (dPa : Def P w K mg base 1 "_law_part" true gPart) (dW : Def P w K mg base 2 "_law_words" true gWordsA) (dPs : Def P w K mg base 2 "_law_pairs" true gPairs) (dPr : Def P w K mg base 2 "_law_prices" true gPrices)
    (dT : Def P w K mg base 2 "_law_text" true gText) (dWy : Def P w K mg base 2 "_law_way" true gWayC) (dSp : Def P w K mg base 2 "_law_spoiled" true gSpoilZ) (dR : Def P w K mg base 4 "_law_right" true gRightZ) : FnOk P w K mg base CX0 5 f fd ["_law_script"] (spD K false lawG) := by
  refine fnD Fx sc_law (fun ds d ⟨ns, hz, e1, e2⟩ => by subst e1; rfl) fun cdv A outer s H Ex Z ds d hr ⟨ns, hz, e1, e2⟩ => ?_
  subst e1 e2
  have nd := sc_law.nd
  have hr1 : Room 1 _ := hr.mono (by decide)
  have hr2 : Room 2 _ := hr.mono (by decide)
  refine sd_setN 1 (d := strsD (wordsA (cellAt ns 0) (cellAt ns 1))) (e_call dW hr2 (ea_cons (e_call dC hr1 (ea_cons (e_var 0) (ea_one e_int)) ⟨ns, 0, by omega, rfl, rfl⟩) (ea_one (e_call dC hr1 (ea_cons (e_var 0) (ea_one e_int)) ⟨ns, 1, by omega, rfl, rfl⟩))) ⟨_, _, rfl, rfl⟩) ?_ nd
  refine sd_setN 2 (d := strsD (wordsA (cellAt ns 2) (cellAt ns 1 + 1))) (e_call dW hr2 (ea_cons (e_call dC hr1 (ea_cons (e_var 0) (ea_one e_int)) ⟨ns, 2, by omega, rfl, rfl⟩) (ea_one (e_add (e_call dC hr1 (ea_cons (e_var 0) (ea_one e_int)) ⟨ns, 1, by omega, rfl, rfl⟩) e_int))) ⟨_, _, rfl, rfl⟩) ?_ nd
  have hws := wordsA_len (cellAt ns 0) (cellAt ns 1)
  have hvs := wordsA_len (cellAt ns 2) (cellAt ns 1 + 1)
  generalize wordsA (cellAt ns 0) (cellAt ns 1) = ws at hws
  generalize wordsA (cellAt ns 2) (cellAt ns 1 + 1) = vs0 at hvs
  obtain ⟨vs, hv4, hvd⟩ : ∃ vs : List Str, vs.length = 4 ∧ vs = if part (cellAt ns 2) 38 2 = 1 then ws else vs0 := ⟨_, by split <;> assumption, rfl⟩
  refine sd_ifJ [some (.pl false (.lst (ns.map D.int))), some (.pl true (strsD ws)), some (.pl true (strsD vs)), none, none, none, none, none, none, none] (t_eqI (e_call dPa hr1 (ea_cons (e_call dC hr1 (ea_cons (e_var 0) (ea_one e_int)) ⟨ns, 2, by omega, rfl, rfl⟩) (ea_cons e_int (ea_one e_int))) ⟨_, _, _, by decide, rfl, rfl⟩) e_int) (fun h => ?_) (fun h => ?_) ?_
  · have h0 : part (cellAt ns 2) 38 2 = 1 := by simpa using h
    rw [if_pos h0] at hvd
    subst hvd
    exact sd_setN 2 (d := strsD vs) (e_listL (m := true) (e_var 1) B.list (fun _ => .inr (flats_strs _))) (sd_nil rfl) nd
  · have h0 : ¬ part (cellAt ns 2) 38 2 = 1 := by simpa using h
    rw [if_neg h0] at hvd
    subst hvd
    exact sd_nil rfl
  refine sd_setN 3 (d := prsD (pairsL ws vs (cellAt ns 3))) (e_call dPs hr2 (ea_cons (e_var 1) (ea_cons (e_var 2) (ea_one (e_call dC hr1 (ea_cons (e_var 0) (ea_one e_int)) ⟨ns, 3, by omega, rfl, rfl⟩)))) ⟨ws, vs, _, hws, hv4, rfl, rfl⟩) ?_ nd
  have hpl := pairsL_len ws vs (cellAt ns 3)
  generalize pairsL ws vs (cellAt ns 3) = ps at hpl
  refine sd_setF 4 (d := intsT (pricesL (cellAt ns 4))) (e_call dPr hr2 (ea_one (e_call dC hr1 (ea_cons (e_var 0) (ea_one e_int)) ⟨ns, 4, by omega, rfl, rfl⟩)) ⟨_, rfl, rfl⟩) (by show flats _ = true; exact flats_ints _) ?_ nd
  have hp5 := pricesL_len (cellAt ns 4)
  generalize pricesL (cellAt ns 4) = prices at hp5
  have hcut : ∀ a b : Nat, (cut ns (some (a : Int)) (some (b : Int))).length ≤ b - a := fun a b => by rw [cut_both, List.length_take]; omega
  have ecut : ∀ a b : Int, D.lst (cut (ns.map D.int) (some a) (some b)) = intsD (cut ns (some a) (some b)) := fun a b => by rw [cut_map]; rfl
  have c1 := hcut 5 17
  have c2 := hcut 17 29
  refine sd_setN 5 (d := rowsD (textA ws (cut ns (some ((5 : Nat) : Int)) (some ((17 : Nat) : Int))))) (e_call dT hr2 (ea_cons (e_var 1) (ea_one (E.cast (e_slL (m := false) (e_var 0) (eo_some e_int) (eo_some e_int)) (ecut 5 17)))) ⟨ws, cut ns (some ((5 : Nat) : Int)) (some ((17 : Nat) : Int)), hws, by omega, rfl, rfl⟩) ?_ nd
  refine sd_setN 6 (d := rowsD (textA vs (cut ns (some ((17 : Nat) : Int)) (some ((29 : Nat) : Int))))) (e_call dT hr2 (ea_cons (e_var 2) (ea_one (E.cast (e_slL (m := false) (e_var 0) (eo_some e_int) (eo_some e_int)) (ecut 17 29)))) ⟨vs, cut ns (some ((17 : Nat) : Int)) (some ((29 : Nat) : Int)), hv4, by omega, rfl, rfl⟩) ?_ nd
  have okl := textA_ok hws (cut ns (some ((5 : Nat) : Int)) (some ((17 : Nat) : Int)))
  have okr := textA_ok hv4 (cut ns (some ((17 : Nat) : Int)) (some ((29 : Nat) : Int)))
  have okl := And.intro okl.ln okl.tt
  have okr := And.intro okr.ln okr.tt
  generalize textA ws (cut ns (some ((5 : Nat) : Int)) (some ((17 : Nat) : Int))) = ls at okl
  generalize textA vs (cut ns (some ((17 : Nat) : Int)) (some ((29 : Nat) : Int))) = rs at okr
  obtain ⟨l5, lt⟩ := okl
  obtain ⟨r5, rt⟩ := okr
  have ok : PaOk ls rs prices ps := ⟨by omega, by omega, hp5, by omega⟩
  have c3 := hcut 29 40
  refine sd_setN 7 (d := plsZ ((wayC ls.length rs.length (cut ns (some ((29 : Nat) : Int)) (some ((40 : Nat) : Int))) 10).st.map castZ)) (e_call dWy hr2 (ea_cons (e_var 5) (ea_cons (e_var 6) (ea_one (E.cast (e_slL (m := false) (e_var 0) (eo_some e_int) (eo_some e_int)) (ecut 29 40))))) ⟨ls, rs, cut ns (some ((29 : Nat) : Int)) (some ((40 : Nat) : Int)), by omega, by omega, by omega, rfl, rfl⟩) ?_ nd
  have hsl : ((wayC ls.length rs.length (cut ns (some ((29 : Nat) : Int)) (some ((40 : Nat) : Int))) 10).st.map castZ).length ≤ 10 := by rw [List.length_map]; exact wayC_len _ _ _ _
  generalize (wayC ls.length rs.length (cut ns (some ((29 : Nat) : Int)) (some ((40 : Nat) : Int))) 10).st.map castZ = zs at hsl
  refine sd_setF 8 (d := .int (cellAt ns 40)) (e_call dC hr1 (ea_cons (e_var 0) (ea_one e_int)) ⟨ns, 40, by omega, rfl, rfl⟩) rfl ?_ nd
  generalize cellAt ns 40 = c
  refine sd_set 9 true (d := plsZ zs) (e_var 7) ?_ nd
  obtain ⟨qs, hql, hqd⟩ : ∃ qs : List (Int × Int), qs.length ≤ 11 ∧ qs = if part c 24 2 = 1 then spoilZ zs c else zs := ⟨_, by
    have := spoilZ_len zs c
    split <;> omega, rfl⟩
  refine sd_ifJ [some (.pl false (.lst (ns.map D.int))), some (.pl true (strsD ws)), some (.pl true (strsD vs)), some (.pl true (prsD ps)), some (.pl true (intsT prices)), some (.pl true (rowsD ls)), some (.pl true (rowsD rs)), some (.pl true (plsZ zs)), some (.pl true (.int c)), some (.pl true (plsZ qs))] (t_eqI (e_call dPa hr1 (ea_cons (e_var 8) (ea_cons e_int (ea_one e_int))) ⟨_, _, _, by decide, rfl, rfl⟩) e_int) (fun h => ?_) (fun h => ?_) ?_
  · have h0 : part c 24 2 = 1 := by simpa using h
    rw [if_pos h0] at hqd
    subst hqd
    exact sd_setN 9 (d := plsZ (spoilZ zs c)) (e_call dSp hr2 (ea_cons (e_var 7) (ea_one (e_var 8))) ⟨zs, c, by omega, rfl, rfl⟩) (sd_nil rfl) nd
  · have h0 : ¬ part c 24 2 = 1 := by simpa using h
    rw [if_neg h0] at hqd
    subst hqd
    exact sd_nil rfl
  refine sd_if (b := false) (T.castB (TW.t (tw_or (t_not (t_val (e_call dR hr (ea_cons (e_var 5) (ea_cons (e_var 6) (ea_cons (e_var 4) (ea_cons (e_var 3) (ea_one (e_var 9)))))) ⟨ls, rs, prices, ps, qs, ⟨ok, by omega, rfl⟩, rfl⟩))) fun _ => tw_or1 (t_not (t_val (e_call dR hr (ea_cons (e_var 5) (ea_cons (e_var 6) (ea_cons (e_var 4) (ea_cons (e_var 3) (ea_one (m1 := false) (e_lst ea_nil)))))) ⟨ls, rs, prices, ps, [], ⟨ok, by simp, rfl⟩, rfl⟩))))) rfl) (fun h => by cases h) (fun h => sd_nil ?_)
  exact sd_ret false (e_call dR hr (ea_cons (e_var 5) (ea_cons (e_var 6) (ea_cons (e_var 4) (ea_cons (e_var 3) (ea_one (e_var 7)))))) ⟨ls, rs, prices, ps, zs, ⟨ok, by omega, rfl⟩, rfl⟩) rfl
end

end
instance : Y.Tabs := ⟨[]⟩
theorem all_mk {l : PySem.W.OpenLaw} {w : World} {K : PySem.W.Frag} {h : Heap} {mg : Str → Option Value} {fa : Addr} (X : K.In h) (G : h.Ns mainGlobals mg) (hfa : mg "law" = some (.ref fa))
    {f1 : Addr} {od1 an1 : Option Addr} {sl1 : Array (Option Value)} {oc1 kV1 dc1 pm1 cd1 ct1 : Value}
    {f2 : Addr} {od2 an2 : Option Addr} {sl2 : Array (Option Value)} {oc2 kV2 dc2 pm2 cd2 ct2 : Value}
    {f3 : Addr} {od3 an3 : Option Addr} {sl3 : Array (Option Value)} {oc3 kV3 dc3 pm3 cd3 ct3 : Value}
    {f4 : Addr} {od4 an4 : Option Addr} {sl4 : Array (Option Value)} {oc4 kV4 dc4 pm4 cd4 ct4 : Value}
    {f5 : Addr} {od5 an5 : Option Addr} {sl5 : Array (Option Value)} {oc5 kV5 dc5 pm5 cd5 ct5 : Value}
    {f6 : Addr} {od6 an6 : Option Addr} {sl6 : Array (Option Value)} {oc6 kV6 dc6 pm6 cd6 ct6 : Value}
    {f7 : Addr} {od7 an7 : Option Addr} {sl7 : Array (Option Value)} {oc7 kV7 dc7 pm7 cd7 ct7 : Value}
    {f8 : Addr} {od8 an8 : Option Addr} {sl8 : Array (Option Value)} {oc8 kV8 dc8 pm8 cd8 ct8 : Value}
    {f9 : Addr} {od9 an9 : Option Addr} {sl9 : Array (Option Value)} {oc9 kV9 dc9 pm9 cd9 ct9 : Value}
    {f10 : Addr} {od10 an10 : Option Addr} {sl10 : Array (Option Value)} {oc10 kV10 dc10 pm10 cd10 ct10 : Value}
    {f11 : Addr} {od11 an11 : Option Addr} {sl11 : Array (Option Value)} {oc11 kV11 dc11 pm11 cd11 ct11 : Value}
    {f12 : Addr} {od12 an12 : Option Addr} {sl12 : Array (Option Value)} {oc12 kV12 dc12 pm12 cd12 ct12 : Value}
    {f13 : Addr} {od13 an13 : Option Addr} {sl13 : Array (Option Value)} {oc13 kV13 dc13 pm13 cd13 ct13 : Value}
    {f14 : Addr} {od14 an14 : Option Addr} {sl14 : Array (Option Value)} {oc14 kV14 dc14 pm14 cd14 ct14 : Value}
    {f15 : Addr} {od15 an15 : Option Addr} {sl15 : Array (Option Value)} {oc15 kV15 dc15 pm15 cd15 ct15 : Value}
    {f16 : Addr} {od16 an16 : Option Addr} {sl16 : Array (Option Value)} {oc16 kV16 dc16 pm16 cd16 ct16 : Value}
    {f17 : Addr} {od17 an17 : Option Addr} {sl17 : Array (Option Value)} {oc17 kV17 dc17 pm17 cd17 ct17 : Value}
    {f18 : Addr} {od18 an18 : Option Addr} {sl18 : Array (Option Value)} {oc18 kV18 dc18 pm18 cd18 ct18 : Value}
    {f19 : Addr} {od19 an19 : Option Addr} {sl19 : Array (Option Value)} {oc19 kV19 dc19 pm19 cd19 ct19 : Value}
    {dh1 : Int} {db1 : Addr} {dt1 du1 dv1 : Tok} {do1 : Option Addr} {dn1 : Nat} {ds1 : Array (Option Value)}
    {dh2 : Int} {db2 : Addr} {dt2 du2 dv2 : Tok} {do2 : Option Addr} {dn2 : Nat} {ds2 : Array (Option Value)}
    {dh3 : Int} {db3 : Addr} {dt3 du3 dv3 : Tok} {do3 : Option Addr} {dn3 : Nat} {ds3 : Array (Option Value)}
    {dh4 : Int} {db4 : Addr} {dt4 du4 dv4 : Tok} {do4 : Option Addr} {dn4 : Nat} {ds4 : Array (Option Value)}
    {dh5 : Int} {db5 : Addr} {dt5 du5 dv5 : Tok} {do5 : Option Addr} {dn5 : Nat} {ds5 : Array (Option Value)}
    {aS : Addr} {dep : Nat}
    {tk2 : Tok}
    {tk3 : Tok}
    {eb eNb : Addr} {eBb eSb : List Value} {eIb : String} {eab ezb : Str} {ehb egb : Bool} {efb : List Str} {ejb : Option Bool} {elb : Option Addr} {e0b e1b e2b e3b e5b : Option Value}
    {eq eNq : Addr} {eBq eSq : List Value} {eIq : String} {eaq ezq : Str} {ehq egq : Bool} {efq : List Str} {ejq : Option Bool} {elq : Option Addr} {e0q e1q e2q e3q e5q : Option Value}
    {en eNn : Addr} {eBn eSn : List Value} {ean ezn : Str} {ehn egn : Bool} {efn : List Str} {ejn : Option Bool} {eln : Option Addr} {e0n e1n e2n e3n e5n : Option Value}
    {et eNt : Addr} {eBt eSt : List Value} {eat ezt : Str} {eht egt : Bool} {eft : List Str} {ejt : Option Bool} {elt : Option Addr} {e0t e1t e2t e3t e5t : Option Value}
    {ex eNx : Addr} {eBx eSx : List Value} {eax ezx : Str} {ehx egx : Bool} {efx : List Str} {ejx : Option Bool} {elx : Option Addr} {e0x e1x e2x e3x e5x : Option Value}
    {ed eNd : Addr} {eBd eSd : List Value} {ead ezd : Str} {ehd egd : Bool} {efd : List Str} {ejd : Option Bool} {eld : Option Addr} {e0d e1d e2d e3d e5d : Option Value}
    (a1 : PySem.W.nsIn K mainGlobals "way_price" = some (some (.ref f1)))
    (l1 : K.lookup f1 = some ⟨oc1, od1, .func (PySem.W.fnOf "way_price" "way_price" (defArgs s_way_price) (defBody s_way_price) (defScope s_way_price) .none kV1 dc1 pm1 an1 cd1 ct1), sl1⟩)
    (c1 : PySem.W.codeIn K cd1 "way_price" = true) (k1 : PySem.W.keepIn K (.ref f1) = true)
    (a2 : PySem.W.nsIn K mainGlobals "is_way" = some (some (.ref f2)))
    (l2 : K.lookup f2 = some ⟨oc2, od2, .func (PySem.W.fnOf "is_way" "is_way" (defArgs s_is_way) (defBody s_is_way) (defScope s_is_way) .none kV2 dc2 pm2 an2 cd2 ct2), sl2⟩)
    (c2 : PySem.W.codeIn K cd2 "is_way" = true) (k2 : PySem.W.keepIn K (.ref f2) = true)
    (a3 : PySem.W.nsIn K mainGlobals "by_pair" = some (some (.ref f3)))
    (l3 : K.lookup f3 = some ⟨oc3, od3, .func (PySem.W.fnOf "by_pair" "by_pair" (defArgs s_by_pair) (defBody s_by_pair) (defScope s_by_pair) .none kV3 dc3 pm3 an3 cd3 ct3), sl3⟩)
    (c3 : PySem.W.codeIn K cd3 "by_pair" = true) (k3 : PySem.W.keepIn K (.ref f3) = true)
    (a4 : PySem.W.nsIn K mainGlobals "step_price" = some (some (.ref f4)))
    (l4 : K.lookup f4 = some ⟨oc4, od4, .func (PySem.W.fnOf "step_price" "step_price" (defArgs s_step_price) (defBody s_step_price) (defScope s_step_price) .none kV4 dc4 pm4 an4 cd4 ct4), sl4⟩)
    (c4 : PySem.W.codeIn K cd4 "step_price" = true) (k4 : PySem.W.keepIn K (.ref f4) = true)
    (a5 : PySem.W.nsIn K mainGlobals "words_of" = some (some (.ref f5)))
    (l5 : K.lookup f5 = some ⟨oc5, od5, .func (PySem.W.fnOf "words_of" "words_of" (defArgs s_words_of) (defBody s_words_of) (defScope s_words_of) .none kV5 dc5 pm5 an5 cd5 ct5), sl5⟩)
    (c5 : PySem.W.codeIn K cd5 "words_of" = true) (k5 : PySem.W.keepIn K (.ref f5) = true)
    (a6 : PySem.W.nsIn K mainGlobals "lone_words" = some (some (.ref f6)))
    (l6 : K.lookup f6 = some ⟨oc6, od6, .func (PySem.W.fnOf "lone_words" "lone_words" (defArgs s_lone_words) (defBody s_lone_words) (defScope s_lone_words) .none kV6 dc6 pm6 an6 cd6 ct6), sl6⟩)
    (c6 : PySem.W.codeIn K cd6 "lone_words" = true) (k6 : PySem.W.keepIn K (.ref f6) = true)
    (a7 : PySem.W.nsIn K mainGlobals "_law_cell_at" = some (some (.ref f7)))
    (l7 : K.lookup f7 = some ⟨oc7, od7, .func (PySem.W.fnOf "_law_cell_at" "_law_cell_at" (defArgs s_law_cell_at) (defBody s_law_cell_at) (defScope s_law_cell_at) .none kV7 dc7 pm7 an7 cd7 ct7), sl7⟩)
    (c7 : PySem.W.codeIn K cd7 "_law_cell_at" = true) (k7 : PySem.W.keepIn K (.ref f7) = true)
    (a8 : PySem.W.nsIn K mainGlobals "_law_part" = some (some (.ref f8)))
    (l8 : K.lookup f8 = some ⟨oc8, od8, .func (PySem.W.fnOf "_law_part" "_law_part" (defArgs s_law_part) (defBody s_law_part) (defScope s_law_part) .none kV8 dc8 pm8 an8 cd8 ct8), sl8⟩)
    (c8 : PySem.W.codeIn K cd8 "_law_part" = true) (k8 : PySem.W.keepIn K (.ref f8) = true)
    (a9 : PySem.W.nsIn K mainGlobals "_law_words" = some (some (.ref f9)))
    (l9 : K.lookup f9 = some ⟨oc9, od9, .func (PySem.W.fnOf "_law_words" "_law_words" (defArgs s_law_words) (defBody s_law_words) (defScope s_law_words) .none kV9 dc9 pm9 an9 cd9 ct9), sl9⟩)
    (c9 : PySem.W.codeIn K cd9 "_law_words" = true) (k9 : PySem.W.keepIn K (.ref f9) = true)
    (a10 : PySem.W.nsIn K mainGlobals "_law_pairs" = some (some (.ref f10)))
    (l10 : K.lookup f10 = some ⟨oc10, od10, .func (PySem.W.fnOf "_law_pairs" "_law_pairs" (defArgs s_law_pairs) (defBody s_law_pairs) (defScope s_law_pairs) .none kV10 dc10 pm10 an10 cd10 ct10), sl10⟩)
    (c10 : PySem.W.codeIn K cd10 "_law_pairs" = true) (k10 : PySem.W.keepIn K (.ref f10) = true)
    (a11 : PySem.W.nsIn K mainGlobals "_law_prices" = some (some (.ref f11)))
    (l11 : K.lookup f11 = some ⟨oc11, od11, .func (PySem.W.fnOf "_law_prices" "_law_prices" (defArgs s_law_prices) (defBody s_law_prices) (defScope s_law_prices) .none kV11 dc11 pm11 an11 cd11 ct11), sl11⟩)
    (c11 : PySem.W.codeIn K cd11 "_law_prices" = true) (k11 : PySem.W.keepIn K (.ref f11) = true)
    (a12 : PySem.W.nsIn K mainGlobals "_law_text" = some (some (.ref f12)))
    (l12 : K.lookup f12 = some ⟨oc12, od12, .func (PySem.W.fnOf "_law_text" "_law_text" (defArgs s_law_text) (defBody s_law_text) (defScope s_law_text) .none kV12 dc12 pm12 an12 cd12 ct12), sl12⟩)
    (c12 : PySem.W.codeIn K cd12 "_law_text" = true) (k12 : PySem.W.keepIn K (.ref f12) = true)
    (a13 : PySem.W.nsIn K mainGlobals "_law_lone" = some (some (.ref f13)))
    (l13 : K.lookup f13 = some ⟨oc13, od13, .func (PySem.W.fnOf "_law_lone" "_law_lone" (defArgs s_law_lone) (defBody s_law_lone) (defScope s_law_lone) .none kV13 dc13 pm13 an13 cd13 ct13), sl13⟩)
    (c13 : PySem.W.codeIn K cd13 "_law_lone" = true) (k13 : PySem.W.keepIn K (.ref f13) = true)
    (a14 : PySem.W.nsIn K mainGlobals "_law_step_price" = some (some (.ref f14)))
    (l14 : K.lookup f14 = some ⟨oc14, od14, .func (PySem.W.fnOf "_law_step_price" "_law_step_price" (defArgs s_law_step_price) (defBody s_law_step_price) (defScope s_law_step_price) .none kV14 dc14 pm14 an14 cd14 ct14), sl14⟩)
    (c14 : PySem.W.codeIn K cd14 "_law_step_price" = true) (k14 : PySem.W.keepIn K (.ref f14) = true)
    (a15 : PySem.W.nsIn K mainGlobals "_law_way" = some (some (.ref f15)))
    (l15 : K.lookup f15 = some ⟨oc15, od15, .func (PySem.W.fnOf "_law_way" "_law_way" (defArgs s_law_way) (defBody s_law_way) (defScope s_law_way) .none kV15 dc15 pm15 an15 cd15 ct15), sl15⟩)
    (c15 : PySem.W.codeIn K cd15 "_law_way" = true) (k15 : PySem.W.keepIn K (.ref f15) = true)
    (a16 : PySem.W.nsIn K mainGlobals "_law_spoiled" = some (some (.ref f16)))
    (l16 : K.lookup f16 = some ⟨oc16, od16, .func (PySem.W.fnOf "_law_spoiled" "_law_spoiled" (defArgs s_law_spoiled) (defBody s_law_spoiled) (defScope s_law_spoiled) .none kV16 dc16 pm16 an16 cd16 ct16), sl16⟩)
    (c16 : PySem.W.codeIn K cd16 "_law_spoiled" = true) (k16 : PySem.W.keepIn K (.ref f16) = true)
    (a17 : PySem.W.nsIn K mainGlobals "_law_due" = some (some (.ref f17)))
    (l17 : K.lookup f17 = some ⟨oc17, od17, .func (PySem.W.fnOf "_law_due" "_law_due" (defArgs s_law_due) (defBody s_law_due) (defScope s_law_due) .none kV17 dc17 pm17 an17 cd17 ct17), sl17⟩)
    (c17 : PySem.W.codeIn K cd17 "_law_due" = true) (k17 : PySem.W.keepIn K (.ref f17) = true)
    (a18 : PySem.W.nsIn K mainGlobals "_law_right" = some (some (.ref f18)))
    (l18 : K.lookup f18 = some ⟨oc18, od18, .func (PySem.W.fnOf "_law_right" "_law_right" (defArgs s_law_right) (defBody s_law_right) (defScope s_law_right) .none kV18 dc18 pm18 an18 cd18 ct18), sl18⟩)
    (c18 : PySem.W.codeIn K cd18 "_law_right" = true) (k18 : PySem.W.keepIn K (.ref f18) = true)
    (a19 : PySem.W.nsIn K mainGlobals "law" = some (some (.ref f19)))
    (l19 : K.lookup f19 = some ⟨oc19, od19, .func (PySem.W.fnOf "law" "law" (defArgs s_law) (defBody s_law) (defScope s_law) .none kV19 dc19 pm19 an19 cd19 ct19), sl19⟩)
    (c19 : PySem.W.codeIn K cd19 "law" = true) (k19 : PySem.W.keepIn K (.ref f19) = true)
    (gS : PySem.W.nsIn K mainGlobals "STEPS" = some (some (.ref aS)))
    (sd : K.lookup aS = some ⟨.type "dict", none, .dict #[⟨dh1, .ref db1, .int 0 dt1⟩, ⟨dh2, .ref db2, .int 1 dt2⟩, ⟨dh3, .ref db3, .int 1 dt3⟩, ⟨dh4, .ref db4, .int 2 dt4⟩, ⟨dh5, .ref db5, .int 2 dt5⟩] dep, #[]⟩)
    (he0 : (aS == sysModules) = false)
    (sq1 : K.lookup db1 = some ⟨.type "tuple", do1, .seq #[.int 1 du1, .int 1 dv1] dn1, ds1⟩)
    (sq2 : K.lookup db2 = some ⟨.type "tuple", do2, .seq #[.int 1 du2, .int 2 dv2] dn2, ds2⟩)
    (sq3 : K.lookup db3 = some ⟨.type "tuple", do3, .seq #[.int 2 du3, .int 1 dv3] dn3, ds3⟩)
    (sq4 : K.lookup db4 = some ⟨.type "tuple", do4, .seq #[.int 1 du4, .int 0 dv4] dn4, ds4⟩)
    (sq5 : K.lookup db5 = some ⟨.type "tuple", do5, .seq #[.int 0 du5, .int 1 dv5] dn5, ds5⟩)
    (he1 : dh1 = tupleKeyHash (mixKind l.prog w) [.inl 1, .inl 1])
    (he2 : dh2 = tupleKeyHash (mixKind l.prog w) [.inl 1, .inl 2])
    (he3 : dh3 = tupleKeyHash (mixKind l.prog w) [.inl 2, .inl 1])
    (he4 : dh4 = tupleKeyHash (mixKind l.prog w) [.inl 1, .inl 0])
    (he5 : dh5 = tupleKeyHash (mixKind l.prog w) [.inl 0, .inl 1])
    (g2 : PySem.W.nsIn K mainGlobals "SLOPE" = some (some (.int 3 tk2)))
    (g3 : PySem.W.nsIn K mainGlobals "LONE" = some (some (.int 4 tk3)))
    (xgb : PySem.W.nsIn K mainGlobals "BesideError" = some (some (.ref eb)))
    (xgq : PySem.W.nsIn K mainGlobals "NoQuestion" = some (some (.ref eq)))
    (xgn : PySem.W.nsIn K mainGlobals "NoWay" = some (some (.ref en)))
    (xgt : PySem.W.nsIn K mainGlobals "Twice" = some (some (.ref et)))
    (xgx : PySem.W.nsIn K mainGlobals "NoText" = some (some (.ref ex)))
    (xgd : PySem.W.nsIn K mainGlobals "NoDeed" = some (some (.ref ed)))
    (xlb : K.lookup eb = some (excClassObj eab ezb eb eNb eBb valB ehb efb eSb egb ejb elb e0b e1b e2b e3b e5b eIb))
    (xlq : K.lookup eq = some (excClassObj eaq ezq eq eNq eBq (.ref eb :: valB) ehq efq eSq egq ejq elq e0q e1q e2q e3q e5q eIq))
    (xln : K.lookup en = some (excClassObj ean ezn en eNn eBn (.ref eb :: valB) ehn efn eSn egn ejn eln e0n e1n e2n e3n e5n "ValueError.__new__"))
    (xlt : K.lookup et = some (excClassObj eat ezt et eNt eBt (.ref eb :: valB) eht eft eSt egt ejt elt e0t e1t e2t e3t e5t "ValueError.__new__"))
    (xlx : K.lookup ex = some (excClassObj eax ezx ex eNx eBx (.ref eb :: valB) ehx efx eSx egx ejx elx e0x e1x e2x e3x e5x "ValueError.__new__"))
    (xld : K.lookup ed = some (excClassObj ead ezd ed eNd eBd (.ref eb :: valB) ehd efd eSd egd ejd eld e0d e1d e2d e3d e5d "ValueError.__new__"))
    (hx1n : PySem.W.nsOkIn K eNn = true) (xin : PySem.W.nsIn K eNn "__init__" = some none) (hx2n : PySem.W.tailIn K valB (.ref eb :: valB) = true)
    (hx1t : PySem.W.nsOkIn K eNt = true) (xit : PySem.W.nsIn K eNt "__init__" = some none) (hx2t : PySem.W.tailIn K valB (.ref eb :: valB) = true)
    (hx1x : PySem.W.nsOkIn K eNx = true) (xix : PySem.W.nsIn K eNx "__init__" = some none) (hx2x : PySem.W.tailIn K valB (.ref eb :: valB) = true)
    (hx1d : PySem.W.nsOkIn K eNd = true) (xid : PySem.W.nsIn K eNd "__init__" = some none) (hx2d : PySem.W.tailIn K valB (.ref eb :: valB) = true)
    (hy1 : [eq, en, et, ex, ed].all (excGB K) = true) (hy2 : ((kitTab eb eq en et ex ed).all fun p => PySem.W.kitOne K (.ref p.1) (.ref p.2.1) == some p.2.2) = true) (hy3 : ([eq, en, et, ex, ed].all fun c => PySem.W.kitOne K (.ref c) (.type "ValueError") == some true) = true)
    (z_ValueError : PySem.W.nsIn K mainGlobals "ValueError" = some none)
    (z_abs : PySem.W.nsIn K mainGlobals "abs" = some none)
    (z_all : PySem.W.nsIn K mainGlobals "all" = some none)
    (z_bool : PySem.W.nsIn K mainGlobals "bool" = some none)
    (z_int : PySem.W.nsIn K mainGlobals "int" = some none)
    (z_isinstance : PySem.W.nsIn K mainGlobals "isinstance" = some none)
    (z_len : PySem.W.nsIn K mainGlobals "len" = some none)
    (z_list : PySem.W.nsIn K mainGlobals "list" = some none)
    (z_max : PySem.W.nsIn K mainGlobals "max" = some none)
    (z_range : PySem.W.nsIn K mainGlobals "range" = some none)
    (z_sum : PySem.W.nsIn K mainGlobals "sum" = some none)
    (z_tuple : PySem.W.nsIn K mainGlobals "tuple" = some none) :
    ∃ fd : FuncData, (∀ (s : Shared) (v : Value), BindsTo s fd ⟨[v], []⟩ [("_law_script", v)]) ∧ ∀ base : Heap, K.In base → base.Ns mainGlobals mg → FnOk l.prog w K mg base CX0 5 fa fd ["_law_script"] (spLaw K) := by
  have e := hfa.symm.trans (PySem.W.mg_of X G a19)
  cases e
  have B : Blt mg := ⟨PySem.W.mg_none_of X G z_ValueError, PySem.W.mg_none_of X G z_abs, PySem.W.mg_none_of X G z_all, PySem.W.mg_none_of X G z_bool, PySem.W.mg_none_of X G z_int, PySem.W.mg_none_of X G z_isinstance, PySem.W.mg_none_of X G z_len, PySem.W.mg_none_of X G z_list, PySem.W.mg_none_of X G z_max, PySem.W.mg_none_of X G z_range, PySem.W.mg_none_of X G z_sum, PySem.W.mg_none_of X G z_tuple, ⟨_, PySem.W.mg_of X G g2⟩, ⟨_, PySem.W.mg_of X G g3⟩⟩
  have XE := errs_mk (K := K) (mg := mg) (PySem.W.mg_of X G xgb) (PySem.W.mg_of X G xgq) (PySem.W.mg_of X G xgn) (PySem.W.mg_of X G xgt) (PySem.W.mg_of X G xgx) (PySem.W.mg_of X G xgd) (exo_mk xlb) (exo_mk xlq) (exc_mk xln hx1n xin hx2n) (exc_mk xlt hx1t xit hx2t) (exc_mk xlx hx1x xix hx2x) (exc_mk xld hx1d xid hx2d) hy1 hy2 hy3
  have ki := ki_steps he0 sd sq1 sq2 sq3 sq4 sq5
  have hS := PySem.W.mg_of X G gS
  have kd := kd_steps (P := l.prog) (w := w) sd sq1 he1 sq2 he2 sq3 he3 sq4 he4 sq5 he5
  have F1 := fun_mk (st := s_way_price) l1 c1 k1
  have b1 := F1.binds (ps := ["lefts", "rights", "prices", "pairs", "steps"]) fun _ _ _ _ _ _ us hl => match us, hl with | [_, _, _, _, _], _ => rfl
  have F2 := fun_mk (st := s_is_way) l2 c2 k2
  have b2 := F2.binds (ps := ["lefts", "rights", "steps"]) fun _ _ _ _ _ _ us hl => match us, hl with | [_, _, _], _ => rfl
  have F3 := fun_mk (st := s_by_pair) l3 c3 k3
  have b3 := F3.binds (ps := ["pairs"]) fun _ _ _ _ _ _ us hl => match us, hl with | [_], _ => rfl
  have F4 := fun_mk (st := s_step_price) l4 c4 k4
  have b4 := F4.binds (ps := ["lefts", "rights", "prices", "paired"]) fun _ _ _ _ _ _ us hl => match us, hl with | [_, _, _, _], _ => rfl
  have F5 := fun_mk (st := s_words_of) l5 c5 k5
  have b5 := F5.binds (ps := ["rows"]) fun _ _ _ _ _ _ us hl => match us, hl with | [_], _ => rfl
  have F6 := fun_mk (st := s_lone_words) l6 c6 k6
  have b6 := F6.binds (ps := ["lefts", "rights", "paired"]) fun _ _ _ _ _ _ us hl => match us, hl with | [_, _, _], _ => rfl
  have F7 := fun_mk (st := s_law_cell_at) l7 c7 k7
  have b7 := F7.binds (ps := ["_law_script", "_law_k"]) fun _ _ _ _ _ _ us hl => match us, hl with | [_, _], _ => rfl
  have F8 := fun_mk (st := s_law_part) l8 c8 k8
  have b8 := F8.binds (ps := ["_law_cell", "_law_k", "_law_many"]) fun _ _ _ _ _ _ us hl => match us, hl with | [_, _, _], _ => rfl
  have F9 := fun_mk (st := s_law_words) l9 c9 k9
  have b9 := F9.binds (ps := ["_law_one", "_law_other"]) fun _ _ _ _ _ _ us hl => match us, hl with | [_, _], _ => rfl
  have F10 := fun_mk (st := s_law_pairs) l10 c10 k10
  have b10 := F10.binds (ps := ["_law_lefts", "_law_rights", "_law_cell"]) fun _ _ _ _ _ _ us hl => match us, hl with | [_, _, _], _ => rfl
  have F11 := fun_mk (st := s_law_prices) l11 c11 k11
  have b11 := F11.binds (ps := ["_law_cell"]) fun _ _ _ _ _ _ us hl => match us, hl with | [_], _ => rfl
  have F12 := fun_mk (st := s_law_text) l12 c12 k12
  have b12 := F12.binds (ps := ["_law_words_here", "_law_cells"]) fun _ _ _ _ _ _ us hl => match us, hl with | [_, _], _ => rfl
  have F13 := fun_mk (st := s_law_lone) l13 c13 k13
  have b13 := F13.binds (ps := ["_law_words_here", "_law_others", "_law_pairs_here", "_law_turned"]) fun _ _ _ _ _ _ us hl => match us, hl with | [_, _, _, _], _ => rfl
  have F14 := fun_mk (st := s_law_step_price) l14 c14 k14
  have b14 := F14.binds (ps := ["_law_lefts", "_law_rights", "_law_prices_here", "_law_pairs_here"]) fun _ _ _ _ _ _ us hl => match us, hl with | [_, _, _, _], _ => rfl
  have F15 := fun_mk (st := s_law_way) l15 c15 k15
  have b15 := F15.binds (ps := ["_law_lefts", "_law_rights", "_law_cells"]) fun _ _ _ _ _ _ us hl => match us, hl with | [_, _, _], _ => rfl
  have F16 := fun_mk (st := s_law_spoiled) l16 c16 k16
  have b16 := F16.binds (ps := ["_law_steps", "_law_cell"]) fun _ _ _ _ _ _ us hl => match us, hl with | [_, _], _ => rfl
  have F17 := fun_mk (st := s_law_due) l17 c17 k17
  have b17 := F17.binds (ps := ["_law_lefts", "_law_rights", "_law_prices_here", "_law_pairs_here", "_law_steps"]) fun _ _ _ _ _ _ us hl => match us, hl with | [_, _, _, _, _], _ => rfl
  have F18 := fun_mk (st := s_law_right) l18 c18 k18
  have b18 := F18.binds (ps := ["_law_lefts", "_law_rights", "_law_prices_here", "_law_pairs_here", "_law_steps"]) fun _ _ _ _ _ _ us hl => match us, hl with | [_, _, _, _, _], _ => rfl
  have F19 := fun_mk (st := s_law) l19 c19 k19
  refine ⟨PySem.W.fnOf "law" "law" (defArgs s_law) (defBody s_law) (defScope s_law) .none kV19 dc19 pm19 an19 cd19 ct19, fun s v => .of_eq rfl, fun base _ _ => ?_⟩
  have D2 := ok_is_way (P := l.prog) (w := w) (base := base) F2 (PySem.W.mg_of X G a2) b2 B hS kd ki
  have D3 := ok_by_pair (P := l.prog) (w := w) (base := base) F3 (PySem.W.mg_of X G a3) b3 B 
  have D5 := ok_words_of (P := l.prog) (w := w) (base := base) F5 (PySem.W.mg_of X G a5) b5 B 
  have D6 := ok_lone_words (P := l.prog) (w := w) (base := base) F6 (PySem.W.mg_of X G a6) b6 B 
  have D4 := ok_step_price (P := l.prog) (w := w) (base := base) F4 (PySem.W.mg_of X G a4) b4 B hS kd D5 D6
  have D1 := ok_way_price (P := l.prog) (w := w) (base := base) F1 (PySem.W.mg_of X G a1) b1 B D2 D3 D4 XE
  have D7 := ok_law_cell_at (P := l.prog) (w := w) (base := base) F7 (PySem.W.mg_of X G a7) b7 B 
  have D8 := ok_law_part (P := l.prog) (w := w) (base := base) F8 (PySem.W.mg_of X G a8) b8 B 
  have D9 := ok_law_words (P := l.prog) (w := w) (base := base) F9 (PySem.W.mg_of X G a9) b9 B D8
  have D10 := ok_law_pairs (P := l.prog) (w := w) (base := base) F10 (PySem.W.mg_of X G a10) b10 B D8
  have D11 := ok_law_prices (P := l.prog) (w := w) (base := base) F11 (PySem.W.mg_of X G a11) b11 B D8
  have D12 := ok_law_text (P := l.prog) (w := w) (base := base) F12 (PySem.W.mg_of X G a12) b12 B D8
  have D13 := ok_law_lone (P := l.prog) (w := w) (base := base) F13 (PySem.W.mg_of X G a13) b13 B 
  have D14 := ok_law_step_price (P := l.prog) (w := w) (base := base) F14 (PySem.W.mg_of X G a14) b14 B D13
  have D15 := ok_law_way (P := l.prog) (w := w) (base := base) F15 (PySem.W.mg_of X G a15) b15 B D7 D8
  have D16 := ok_law_spoiled (P := l.prog) (w := w) (base := base) F16 (PySem.W.mg_of X G a16) b16 B D8
  have D17 := ok_law_due (P := l.prog) (w := w) (base := base) F17 (PySem.W.mg_of X G a17) b17 B D14
  have D18 := ok_law_right (P := l.prog) (w := w) (base := base) F18 (PySem.W.mg_of X G a18) b18 B D17 D1 XE
  exact law_of (ok_law F19 B D7 D8 D9 D10 D11 D12 D15 D16 D18)
end Z
open PySem PySem.W PyProof.Rows
set_option maxRecDepth 100000 in
set_option maxHeartbeats 0 in
theorem PySem.Challenge.cw_besidewords_k52_the_price_of_a_way_holds : PySem.Challenge.rw_besidewords_k52_the_price_of_a_way.Holds := by
  w_on; o_law; k_head; (case hw => w_witness2)
  k_fill
  refine Y.walk (l := PySem.Challenge.rw_besidewords_k52_the_price_of_a_way) (k := 5) (x := "_law_script") rfl rfl ⟨rfl, by decide, by decide⟩ (fun w h Y => PySem.W.kIn_of Y) ?F
  case F =>
    intro w mg fa h KX G hmg
    refine' Z.all_mk KX G hmg ?a1 ?l1 ?c1 ?k1 ?a2 ?l2 ?c2 ?k2 ?a3 ?l3 ?c3 ?k3 ?a4 ?l4 ?c4 ?k4 ?a5 ?l5 ?c5 ?k5 ?a6 ?l6 ?c6 ?k6 ?a7 ?l7 ?c7 ?k7 ?a8 ?l8 ?c8 ?k8 ?a9 ?l9 ?c9 ?k9 ?a10 ?l10 ?c10 ?k10 ?a11 ?l11 ?c11 ?k11 ?a12 ?l12 ?c12 ?k12 ?a13 ?l13 ?c13 ?k13 ?a14 ?l14 ?c14 ?k14 ?a15 ?l15 ?c15 ?k15 ?a16 ?l16 ?c16 ?k16 ?a17 ?l17 ?c17 ?k17 ?a18 ?l18 ?c18 ?k18 ?a19 ?l19 ?c19 ?k19 ?gS ?sd ?he0 ?sq1 ?sq2 ?sq3 ?sq4 ?sq5 ?he1 ?he2 ?he3 ?he4 ?he5 ?g2 ?g3 ?xgb ?xgq ?xgn ?xgt ?xgx ?xgd ?xlb ?xlq ?xln ?xlt ?xlx ?xld ?hx1n ?xin ?hx2n ?hx1t ?xit ?hx2t ?hx1x ?xix ?hx2x ?hx1d ?xid ?hx2d ?hy1 ?hy2 ?hy3 ?z_ValueError ?z_abs ?z_all ?z_bool ?z_int ?z_isinstance ?z_len ?z_list ?z_max ?z_range ?z_sum ?z_tuple
    (case a1 => k_is)
    (case l1 => k_is)
    (case c1 => k_is)
    (case k1 => k_is)
    (case a2 => k_is)
    (case l2 => k_is)
    (case c2 => k_is)
    (case k2 => k_is)
    (case a3 => k_is)
    (case l3 => k_is)
    (case c3 => k_is)
    (case k3 => k_is)
    (case a4 => k_is)
    (case l4 => k_is)
    (case c4 => k_is)
    (case k4 => k_is)
    (case a5 => k_is)
    (case l5 => k_is)
    (case c5 => k_is)
    (case k5 => k_is)
    (case a6 => k_is)
    (case l6 => k_is)
    (case c6 => k_is)
    (case k6 => k_is)
    (case a7 => k_is)
    (case l7 => k_is)
    (case c7 => k_is)
    (case k7 => k_is)
    (case a8 => k_is)
    (case l8 => k_is)
    (case c8 => k_is)
    (case k8 => k_is)
    (case a9 => k_is)
    (case l9 => k_is)
    (case c9 => k_is)
    (case k9 => k_is)
    (case a10 => k_is)
    (case l10 => k_is)
    (case c10 => k_is)
    (case k10 => k_is)
    (case a11 => k_is)
    (case l11 => k_is)
    (case c11 => k_is)
    (case k11 => k_is)
    (case a12 => k_is)
    (case l12 => k_is)
    (case c12 => k_is)
    (case k12 => k_is)
    (case a13 => k_is)
    (case l13 => k_is)
    (case c13 => k_is)
    (case k13 => k_is)
    (case a14 => k_is)
    (case l14 => k_is)
    (case c14 => k_is)
    (case k14 => k_is)
    (case a15 => k_is)
    (case l15 => k_is)
    (case c15 => k_is)
    (case k15 => k_is)
    (case a16 => k_is)
    (case l16 => k_is)
    (case c16 => k_is)
    (case k16 => k_is)
    (case a17 => k_is)
    (case l17 => k_is)
    (case c17 => k_is)
    (case k17 => k_is)
    (case a18 => k_is)
    (case l18 => k_is)
    (case c18 => k_is)
    (case k18 => k_is)
    (case a19 => k_is)
    (case l19 => k_is)
    (case c19 => k_is)
    (case k19 => k_is)
    (case gS => k_is)
    (case sd => k_is)
    (case he0 => kernel_rfl)
    (case sq1 => k_is)
    (case sq2 => k_is)
    (case sq3 => k_is)
    (case sq4 => k_is)
    (case sq5 => k_is)
    (case he1 => kernel_rfl)
    (case he2 => kernel_rfl)
    (case he3 => kernel_rfl)
    (case he4 => kernel_rfl)
    (case he5 => kernel_rfl)
    (case g2 => k_is)
    (case g3 => k_is)
    (case xgb => k_is)
    (case xgq => k_is)
    (case xgn => k_is)
    (case xgt => k_is)
    (case xgx => k_is)
    (case xgd => k_is)
    (case xlb => k_is)
    (case xlq => k_is)
    (case xln => k_is)
    (case xlt => k_is)
    (case xlx => k_is)
    (case xld => k_is)
    (case hx1n => kernel_rfl)
    (case xin => k_is)
    (case hx2n => kernel_rfl)
    (case hx1t => kernel_rfl)
    (case xit => k_is)
    (case hx2t => kernel_rfl)
    (case hx1x => kernel_rfl)
    (case xix => k_is)
    (case hx2x => kernel_rfl)
    (case hx1d => kernel_rfl)
    (case xid => k_is)
    (case hx2d => kernel_rfl)
    (case hy1 => kernel_rfl)
    (case hy2 => kernel_rfl)
    (case hy3 => kernel_rfl)
    (case z_ValueError => k_is)
    (case z_abs => k_is)
    (case z_all => k_is)
    (case z_bool => k_is)
    (case z_int => k_is)
    (case z_isinstance => k_is)
    (case z_len => k_is)
    (case z_list => k_is)
    (case z_max => k_is)
    (case z_range => k_is)
    (case z_sum => k_is)
    (case z_tuple => k_is)

